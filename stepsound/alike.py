"""Whether two coders sound alike, and the classes of one coder: [11], [12]."""

from stepsound.coders import need_coder
from stepsound.couples import led_states
from stepsound.errors import BadPaper, OutOfPlace
from stepsound.kinds import is_pair, is_state, is_tuple_of_codes, need_few_states, need_state
from stepsound.moves import state_behind_row
from stepsound.papers import need_form
from stepsound.ways import row_along

FORMS = (("alike", 2), ("apart", 2))


def alike(coder, other, one, two):
    """The paper of two coders, each with a state: whether all rows are heard alike from them."""
    _need_all(coder, other, one, two)
    led, led_other = led_states(coder), led_states(other)
    leaders = {(one, two): None}
    layer = [(one, two)]
    # Each layer is in the order of its rows, so the first row that is found is the first one.
    while layer:
        fresh = []
        for pair in layer:
            for code, after in enumerate(_pairs_behind(led, led_other, pair)):
                if _is_unlike(after):
                    return "apart", row_along(leaders, pair) + (code,)
                if after not in leaders:
                    leaders[after] = (pair, code)
                    fresh.append(after)
        layer = fresh
    return "alike", tuple(sorted(leaders))


def check_alike(coder, other, one, two, paper):
    """True or False, by the word of a paper of two coders; refuse a paper that proves nothing."""
    _need_all(coder, other, one, two)
    need_form(paper, FORMS)
    if paper[0] == "alike":
        _check_couples(coder, other, (one, two), paper[1])
        return True
    _check_row(coder, other, (one, two), paper[1])
    return False


def classes(coder):
    """The tuple of the classes of a coder, each an ascending tuple of states."""
    need_coder(coder)
    need_few_states(coder, 256)
    led = led_states(coder)
    groups = _grouped({state: tuple([after[0] for after in led[state]]) for state in led})
    many = 0
    # Behind each round those are together whom no row of one code more tells apart.
    while len(groups) > many:
        many = len(groups)
        numbers = {state: number for number, group in enumerate(groups) for state in group}
        groups = _grouped({state: (numbers[state],) + _numbers_of(numbers, led[state]) for state in led})
    return tuple(groups)


def _need_all(coder, other, one, two):
    """Refuse the first thing that is wrong, each coder with its number of states."""
    need_coder(coder)
    need_few_states(coder, 256)
    need_coder(other)
    need_few_states(other, 256)
    if len(coder[3]) != len(other[3]):
        raise OutOfPlace("a coder with another number of moves")
    need_state(coder, one)
    need_state(other, two)


def _pairs_behind(led, led_other, pair):
    """For each code the pair of states to which it leads a pair."""
    return list(zip(led[pair[0]], led_other[pair[1]]))


def _is_unlike(pair):
    """True if the levels of a pair of states are unlike."""
    return pair[0][0] != pair[1][0]


def _check_couples(coder, other, pair, couples):
    if not isinstance(couples, tuple):
        raise BadPaper("couples", None)
    for index, thing in enumerate(couples):
        if not _is_pair_of_states(coder, other, thing) or index > 0 and thing <= couples[index - 1]:
            raise BadPaper("couples", index)
    led, led_other = led_states(coder), led_states(other)
    listed = {couple: True for couple in couples}
    for index, couple in enumerate(couples):
        for after in _pairs_behind(led, led_other, couple):
            if after not in listed or _is_unlike(after):
                raise BadPaper("couples", index)
    if pair not in listed:
        raise BadPaper("couples", len(couples))


def _is_pair_of_states(coder, other, thing):
    return is_pair(thing) and is_state(coder, thing[0]) and is_state(other, thing[1])


def _check_row(coder, other, pair, row):
    if not is_tuple_of_codes(coder, row) or len(row) == 0:
        raise BadPaper("row", None)
    if not _is_unlike((state_behind_row(coder, row, pair[0]), state_behind_row(other, row, pair[1]))):
        raise BadPaper("row", None)


def _numbers_of(numbers, states):
    return tuple([numbers[state] for state in states])


def _grouped(keys):
    """The list of the tuples of states that have one key, in the order of the states."""
    groups = {}
    for state in keys:
        groups.setdefault(keys[state], []).append(state)
    return [tuple(group) for group in groups.values()]
