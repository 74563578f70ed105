"""Coders, their states, and where codes lead: [2], [3], [4]."""

from stepsound.errors import BadCoder
from stepsound.kinds import is_between, is_pair, need_code, need_few_states, need_place, need_state
from stepsound.moves import all_states, change_at, state_behind


def is_coder(thing):
    """True if the thing is a coder, False for any other value."""
    return _first_fault(thing) is None


def need_coder(thing):
    """Return the same coder; refuse what is none by its first fault."""
    fault = _first_fault(thing)
    if fault is not None:
        raise BadCoder(fault[0], fault[1])
    return thing


def states_of(coder):
    """The tuple of all states of a coder with at most 4,096 of them, in ascending order."""
    need_coder(coder)
    need_few_states(coder, 4096)
    return all_states(coder)


def change_of(coder, code, place):
    """The change that a code makes at a place."""
    need_coder(coder)
    need_code(coder, code)
    need_place(coder, place)
    return change_at(coder, code, place)


def led_to(coder, state, code):
    """The state to which a code leads a state."""
    need_coder(coder)
    need_state(coder, state)
    need_code(coder, code)
    return state_behind(coder, state, code)


def _first_fault(thing):
    """The part and the number of the first fault of a thing, None for a coder."""
    if not isinstance(thing, tuple) or len(thing) != 5:
        return "form", None
    low, high, steps, moves, fade = thing
    if not is_between(low, -32768, 0):
        return "low", None
    if not is_between(high, 0, 32767):
        return "high", None
    fault = _fault_of_steps(steps)
    if fault is None:
        fault = _fault_of_moves(moves)
    if fault is None and not _is_fade(fade):
        fault = "fade", None
    return fault


def _fault_of_steps(steps):
    if not _is_tuple_of(steps, 1, 16):
        return "steps", None
    for index, step in enumerate(steps):
        if not is_between(step, 1, 9999):
            return "steps", index
    return None


def _fault_of_moves(moves):
    if not _is_tuple_of(moves, 2, 16):
        return "moves", None
    for index, move in enumerate(moves):
        if not _is_move(move):
            return "moves", index
    return None


def _is_tuple_of(thing, least, most):
    """True if the thing is a tuple of LEAST to MOST things of any kind."""
    return isinstance(thing, tuple) and least <= len(thing) <= most


def _is_move(thing):
    return is_pair(thing) and is_between(thing[0], -32, 32) and is_between(thing[1], -15, 15)


def _is_fade(thing):
    return is_between(thing, 0, 0) or is_between(thing, 2, 99)
