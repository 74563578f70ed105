"""Steps of a desk as edits, and their reports: [18].

An EDIT is (INDEX, OLD, NEW, STATE, LATER): behind the step the codes NEW stand
in the place of the codes OLD, from an index on, and the clip begins in the
state LATER and no longer in STATE.
"""

from stepsound.errors import OutOfPlace, TooGreat
from stepsound.kinds import MOST_CODES, is_between, is_code, is_state

STEPS = (("put", 3), ("set", 3), ("cut", 3), ("from", 2))


def edit_of(coder, codes, state, step):
    """The edit of a step of a clip; refuse what is no step that can be done."""
    _need_step(coder, codes, step)
    word = step[0]
    if word == "from":
        return 0, (), (), state, step[1]
    index = step[1]
    if word == "put":
        if len(codes) == MOST_CODES:
            raise TooGreat(MOST_CODES)
        return index, (), (step[2],), state, state
    if word == "set":
        return index, (codes[index],), (step[2],), state, state
    return index, codes[index:step[2]], (), state, state


def edited(codes, edit):
    """The codes behind an edit."""
    index, old, new = edit[:3]
    return codes[:index] + new + codes[index + len(old):]


def opposite_of(edit):
    """The edit that undoes an edit."""
    index, old, new, state, later = edit
    return index, new, old, later, state


def report_of(before, after):
    """(FIRST, OLD, NEW) of the samples that were heard before and are heard after a step."""
    most = min(len(before), len(after))
    first = _many_alike(before, after, most)
    end = _many_alike(before[::-1], after[::-1], most - first)
    return first, before[first:len(before) - end], after[first:len(after) - end]


def _many_alike(one, other, most):
    """The number of samples at the beginning that are alike, at most so many."""
    for index in range(most):
        if one[index] != other[index]:
            return index
    return most


def _need_step(coder, codes, thing):
    if not isinstance(thing, tuple) or len(thing) == 0 or not isinstance(thing[0], str):
        raise OutOfPlace("no step")
    if (thing[0], len(thing)) not in STEPS or not _can_be_done(coder, codes, thing):
        raise OutOfPlace("no step that can be done")


def _can_be_done(coder, codes, step):
    word = step[0]
    many = len(codes)
    if word == "put":
        return is_between(step[1], 0, many) and is_code(coder, step[2])
    if word == "set":
        return is_between(step[1], 0, many - 1) and is_code(coder, step[2])
    if word == "cut":
        return is_between(step[2], 1, many) and is_between(step[1], 0, step[2] - 1)
    return is_state(coder, step[1])
