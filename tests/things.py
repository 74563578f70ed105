"""Coders of the document, things of every kind, and the move of [4] told a second time."""

from fractions import Fraction
from itertools import product
from math import trunc
from random import Random

from stepsound.clips import Clip
from stepsound.desk import Desk
from stepsound.hearers import Hearer

SMALL = (-8, 7, (2, 4, 8), ((4, -1), (-4, -1), (8, 1), (-8, 1)), 0)
TINY = (-1, 1, (1,), ((8, 0), (-8, 0)), 0)
CLIMB = (0, 8, (1, 4), ((8, -1), (8, 1), (-8, -1)), 0)
FADING = (-20, 30, (1, 3, 9), ((7, 1), (-7, 1), (1, -2), (-32, 0), (32, 15)), 3)
LEAST = (0, 0, (1,), ((-32, -15), (-32, -15)), 0)
GREATEST = (-32768, 32767, (9999,) * 16, ((32, 15),) * 16, 99)
# All rows of three codes bring together all states of DROPS, no row brings together any of STILL.
DROPS = (0, 3, (1,), ((8, 0), (16, 0)), 0)
STILL = (-1, 1, (1, 1), ((0, 0), (0, 0)), 0)
CODERS = (SMALL, TINY, CLIMB, FADING, LEAST, GREATEST)

HUGE = 10 ** 999


def deep_tuple(depth=300):
    thing = ()
    for _ in range(depth):
        thing = (thing,)
    return thing


class Odd:
    """A thing that can neither be compared nor counted, written or asked for its truth."""

    def __eq__(self, *others):
        raise RuntimeError("an odd thing was touched")

    __ne__ = __lt__ = __le__ = __gt__ = __ge__ = __hash__ = __bool__ = __len__ = __iter__ = __repr__ = __eq__


# The package's own objects and classes; no test changes them.
OWN_THINGS = (
    Clip(TINY), Clip(SMALL, (0, 1), state=(1, 1)), Hearer(TINY), Desk(Clip(TINY)), Desk(Clip(SMALL, (2, 0))), Clip, Desk,
)

# None of these is an integer, a tuple of two or five things, a row or a text.
NO_NUMBERS = (
    None, True, False, "", "0", "text", b"", b"\x00", 0.0, 1.0, 1.5, float("nan"), 1j,
    [], [0], [0, 0], {}, {0: 0}, set(), frozenset(), object(), int, len, range(2), lambda: 0,
    Odd(), ValueError("0"), Fraction(1), (None,), ((0,),), deep_tuple(), (True, False, None),
) + OWN_THINGS
WRONG_NUMBERS = NO_NUMBERS + ((), (0,), (0, 0), (0, 0, 0), HUGE, -HUGE)
NO_TUPLES = tuple(thing for thing in NO_NUMBERS if not isinstance(thing, tuple)) + (0, 1, -1, HUGE, -HUGE)
NO_TEXTS = tuple(thing for thing in WRONG_NUMBERS if not isinstance(thing, str)) + (0, 1, ("0",), ["0"])
NO_CLIPS = tuple(thing for thing in WRONG_NUMBERS if not isinstance(thing, Clip)) + (0, 1, SMALL, (SMALL, (0,), (0, 0)))

NO_CODERS = NO_TUPLES + (
    (), (0,), (0, 0), deep_tuple(), SMALL[:4], SMALL + (0,), (SMALL,), list(SMALL),
    (None,) * 5, (1, 7) + SMALL[2:], SMALL[:4] + (1,),
)

# What is no paper, no damage and no part of either.
NO_PARTS = NO_NUMBERS + ((), (0,), (0, 0), (0, 0, 0), [()], "always", "lost", -1, 0, 1, 2, 16, HUGE, -HUGE)

NO_PAIRS = NO_NUMBERS + ((), (0,), (0, 0, 0), [0, 0], "ab", b"ab", {0: 0, 1: 1}, 0, 1, HUGE, -HUGE)

NO_SIGNALS = NO_TUPLES + tuple((thing,) for thing in WRONG_NUMBERS) + (
    (40001,), (-40001,), (0, 40001), (0, -40001, 0), (0,) * 65, (0,) * 64 + (None,), (0,) * 63 + (None,), [0], [],
    (0, None), ("0",), ((0, 0),),
)


def coder_with(many, places=1, fade=0):
    """A coder with so many levels, and so many states at each."""
    low = -(many // 2)
    return low, low + many - 1, (8,) * places, ((1, 1), (-1, -1), (3, 0)), fade


def no_states(coder):
    """Things of every kind that are no state of the coder, those next to one among them."""
    low, high, steps = coder[:3]
    wrong = [(low - 1, 0), (high + 1, 0), (0, -1), (0, len(steps)), (low - 1, -1), (high + 1, len(steps))]
    wrong += [(thing, 0) for thing in WRONG_NUMBERS] + [(0, thing) for thing in WRONG_NUMBERS]
    return NO_PAIRS + tuple(wrong)


def is_told_code(coder, thing):
    return type(thing) is int and 0 <= thing < len(coder[3])


def is_told_state(coder, thing):
    return type(thing) is tuple and len(thing) == 2 and all(type(one) is int for one in thing) and (
        coder[0] <= thing[0] <= coder[1] and 0 <= thing[1] < len(coder[2]))


def is_told_couple(coder, thing):
    return type(thing) is tuple and len(thing) == 2 and all(is_told_state(coder, one) for one in thing) and (
        thing[0] < thing[1])


def told_step(coder, state, code):
    """The move of [4], by fractions: (CHANGE, STATE)."""
    low, high, steps, moves, fade = coder
    level, place = state
    share, turn = moves[code]
    change = trunc(Fraction(share * steps[place], 8))
    if fade:
        level -= trunc(Fraction(level, fade))
    level = sorted((low, level + change, high))[1]
    return change, (level, sorted((0, place + turn, len(steps) - 1))[1])


def told_row(coder, row, state):
    """What is heard of a row, and its last state, by told_step."""
    samples = []
    for code in row:
        state = told_step(coder, state, code)[1]
        samples.append(state[0])
    return tuple(samples), state


def states(coder):
    return list(product(range(coder[0], coder[1] + 1), range(len(coder[2]))))


def random_coders(many):
    """Coders of every shape, always the same ones."""
    rng = Random(21)
    for _ in range(many):
        yield (
            -rng.choice((0, 1, 9, 40)), rng.choice((0, 1, 9, 40)),
            tuple(rng.randint(1, rng.choice((3, 30, 9999))) for _ in range(rng.randint(1, 16))),
            tuple((rng.randint(-32, 32), rng.randint(-15, 15)) for _ in range(rng.randint(2, 16))),
            rng.choice((0, 0, 2, 3, 7, 99)),
        )


def random_row(rng, coder, many):
    return tuple(rng.randrange(len(coder[3])) for _ in range(many))


def random_signal(rng, coder, many):
    return tuple(rng.randint(coder[0] - 3, coder[1] + 3) for _ in range(many))


def replaced(things, index, thing):
    return things[:index] + (thing,) + things[index + 1:]


class Refusals:
    """Assertions for a unittest.TestCase: the very class of an error, and its fields."""

    def assert_refused(self, error, fields, call, *args, **named):
        """FIELDS is a dict of the error's fields, {} where only the class is told."""
        try:
            result = call(*args, **named)
        except Exception as caught:
            self.assertIs(caught.__class__, error)
            for name, value in fields.items():
                found = getattr(caught, name)
                self.assertEqual((name, found, found.__class__), (name, value, value.__class__))
            return
        self.fail(f"no {error.__name__} of {call.__name__}, but {result!r:.200}")
