"""The kinds of things that callers pass beside a coder: [1], [3].

Each coder here is known to be one; the things beside it may be anything.
"""

from stepsound.errors import BadRow, OutOfPlace, TooGreat

MOST_CODES = 2000


def is_integer(thing):
    # Python counts True and False among the ints, the document does not.
    return isinstance(thing, int) and not isinstance(thing, bool)


def is_between(thing, least, most):
    """True if the thing is an integer from LEAST to MOST."""
    return is_integer(thing) and least <= thing <= most


def is_pair(thing):
    return isinstance(thing, tuple) and len(thing) == 2


def is_code(coder, thing):
    return is_between(thing, 0, len(coder[3]) - 1)


def is_tuple_of_codes(coder, thing):
    """True if the thing is a row, however many codes it has."""
    return isinstance(thing, tuple) and all([is_code(coder, code) for code in thing])


def is_place(coder, thing):
    return is_between(thing, 0, len(coder[2]) - 1)


def is_state(coder, thing):
    return is_pair(thing) and is_between(thing[0], coder[0], coder[1]) and is_place(coder, thing[1])


def is_couple(coder, thing):
    """True if the thing is a pair of two states of which the first one is less."""
    return is_pair(thing) and is_state(coder, thing[0]) and is_state(coder, thing[1]) and thing[0] < thing[1]


def need_code(coder, thing):
    if not is_code(coder, thing):
        raise OutOfPlace("no code of the coder")


def need_place(coder, thing):
    if not is_place(coder, thing):
        raise OutOfPlace("no place of the coder")


def need_state(coder, thing):
    if not is_state(coder, thing):
        raise OutOfPlace("no state of the coder")


def need_times(thing):
    """Refuse what is no number of repetitions, and no index of a sample in them."""
    if not is_between(thing, 0, 10 ** 30):
        raise OutOfPlace("no number from 0 to 10 ** 30")


def need_row(coder, thing):
    """Refuse what is no row of at most 2,000 codes, by the first thing that cannot stand in it."""
    if not isinstance(thing, tuple):
        raise BadRow(0, 0)
    for index, code in enumerate(thing):
        if index == MOST_CODES or not is_code(coder, code):
            raise BadRow(1, index + 1)


def need_few_states(coder, most):
    """Refuse a coder with more than MOST states."""
    low, high, steps = coder[:3]
    if (high - low + 1) * len(steps) > most:
        raise TooGreat(most)
