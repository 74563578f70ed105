"""Rows that follow a signal within a bound, and what greedy rows lose: [14], [15]."""

from stepsound.coders import need_coder
from stepsound.couples import led_states
from stepsound.errors import BadPaper, OutOfPlace
from stepsound.kinds import is_between, is_state, is_tuple_of_codes, need_few_states, need_state
from stepsound.losses import greatest_loss_from
from stepsound.moves import samples_along
from stepsound.papers import need_form
from stepsound.signals import need_signal

FORMS = (("row", 2), ("lost", 3))
MOST_BOUND = 80000


def followed(coder, signal, bound, *, state=(0, 0)):
    """The paper of a signal and a bound: a row that follows it, or that it is lost."""
    _need_all(coder, signal, bound, state)
    led = led_states(coder)
    sets = [[state]]
    for index, number in enumerate(signal):
        behind = _states_within(led, sets[index], number, bound)
        if not behind:
            return "lost", index, tuple([tuple(states) for states in sets])
        sets.append(behind)
    return "row", _first_row(led, sets)


def check_followed(coder, signal, bound, paper, *, state=(0, 0)):
    """True for a paper of a row, False for that of a lost signal; refuse a paper that proves nothing."""
    _need_all(coder, signal, bound, state)
    need_form(paper, FORMS)
    if paper[0] == "row":
        _check_row(coder, signal, bound, state, paper[1])
        return True
    _check_sets(coder, signal, bound, state, paper)
    return False


def greatest_loss(coder, many, *, state=(0, 0)):
    """(LOSS, SIGNAL): the greatest loss of the greedy row for signals of so many numbers, and the first of them."""
    need_coder(coder)
    need_few_states(coder, 32)
    if not is_between(many, 0, 6):
        raise OutOfPlace("no number from 0 to 6")
    need_state(coder, state)
    return greatest_loss_from(led_states(coder), list(range(coder[0], coder[1] + 1)), many, state)


def _need_all(coder, signal, bound, state):
    """Refuse the first thing that is wrong."""
    need_coder(coder)
    need_few_states(coder, 256)
    need_signal(signal)
    if not is_between(bound, 0, MOST_BOUND):
        raise OutOfPlace("no number from 0 to 80,000")
    need_state(coder, state)


def _states_within(led, states, number, bound):
    """The ascending list of the states to which codes lead those of a list with samples within the bound."""
    return sorted(set([after for state in states for after in led[state] if abs(number - after[0]) <= bound]))


def _first_row(led, sets):
    """The first row that leads from the one state of the first of the sets through all others."""
    hopeful = [{state: True for state in sets[-1]}]
    for states in sets[-2::-1]:
        ahead = hopeful[-1]
        hopeful.append({state: True for state in states if any([after in ahead for after in led[state]])})
    row = []
    now = sets[0][0]
    for ahead in hopeful[-2::-1]:
        code = [after in ahead for after in led[now]].index(True)
        row.append(code)
        now = led[now][code]
    return tuple(row)


def _check_row(coder, signal, bound, state, row):
    if not is_tuple_of_codes(coder, row) or len(row) != len(signal):
        raise BadPaper("row", None)
    samples = samples_along(coder, row, state)
    if not all([abs(number - sample) <= bound for number, sample in zip(signal, samples)]):
        raise BadPaper("row", None)


def _check_sets(coder, signal, bound, state, paper):
    last, sets = paper[1:]
    if not is_between(last, 0, len(signal) - 1) or not isinstance(sets, tuple) or len(sets) != last + 1:
        raise BadPaper("sets", None)
    for index, states in enumerate(sets):
        if not _are_states(coder, states) or index == 0 and states != (state,):
            raise BadPaper("sets", index)
    led = led_states(coder)
    for index, states in enumerate(sets):
        # Behind the last set there is none that could list a state.
        listed = {each: True for each in sets[index + 1]} if index < last else {}
        if not all([after in listed for after in _states_within(led, states, signal[index], bound)]):
            raise BadPaper("sets", index)


def _are_states(coder, thing):
    """True if the thing is an ascending tuple of states without duplicates."""
    if not isinstance(thing, tuple) or not all([is_state(coder, state) for state in thing]):
        return False
    return all([one < other for one, other in zip(thing, thing[1:])])
