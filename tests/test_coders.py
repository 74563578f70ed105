"""What is a coder, and which fault of none is told: [1], [2]."""

import copy
import unittest

from stepsound.coders import is_coder, need_coder
from stepsound.errors import BadCoder
from tests.things import CODERS, HUGE, LEAST, NO_TUPLES, Refusals, SMALL, WRONG_NUMBERS
from tests.things import deep_tuple, random_coders, replaced

# A wrong thing for each part, in the order in which the parts are looked at.
PARTS = (("low", 0, 1), ("high", 1, -1), ("steps", 2, ()), ("moves", 3, ()), ("fade", 4, 1))


class CodersTest(Refusals, unittest.TestCase):
    def assert_coder(self, thing):
        kept = copy.deepcopy(thing)
        self.assertIs(is_coder(thing), True)
        self.assertIs(need_coder(thing), thing)
        self.assertEqual(thing, kept)

    def assert_fault(self, part, number, thing):
        self.assertIs(is_coder(thing), False)
        self.assertIs(is_coder(thing=thing), False)
        self.assert_refused(BadCoder, {"part": part, "number": number}, need_coder, thing)
        self.assert_refused(BadCoder, {"part": part, "number": number}, need_coder, thing=thing)

    def test_coders(self):
        for coder in CODERS:
            self.assert_coder(coder)
        for coder in random_coders(200):
            self.assert_coder(coder)
        self.assertIs(is_coder(thing=SMALL), True)
        self.assertIs(need_coder(thing=SMALL), SMALL)

    def test_form(self):
        for thing in NO_TUPLES:
            self.assert_fault("form", None, thing)
        for thing in ((), SMALL[:4], SMALL + (0,), SMALL + SMALL, (SMALL,), deep_tuple()):
            self.assert_fault("form", None, thing)
        self.assert_fault("form", None, list(SMALL))
        self.assert_fault("form", None, dict(enumerate(SMALL)))

    def test_low(self):
        for low in (-32768, -32767, -1, 0):
            self.assert_coder(replaced(SMALL, 0, low))
        for low in (-32769, 1, 7) + WRONG_NUMBERS:
            self.assert_fault("low", None, replaced(SMALL, 0, low))

    def test_high(self):
        for high in (0, 1, 32766, 32767):
            self.assert_coder(replaced(SMALL, 1, high))
        for high in (-1, 32768, -8) + WRONG_NUMBERS:
            self.assert_fault("high", None, replaced(SMALL, 1, high))

    def test_fade(self):
        for fade in (0, 2, 3, 98, 99):
            self.assert_coder(replaced(SMALL, 4, fade))
        for fade in (-1, 1, 100, -2, 101) + WRONG_NUMBERS:
            self.assert_fault("fade", None, replaced(SMALL, 4, fade))

    def test_numbers_of_steps(self):
        for many in (1, 2, 15, 16):
            self.assert_coder(replaced(SMALL, 2, (5,) * many))
        for steps in ((), (5,) * 17, (5,) * 100, [5], {5: 5}, 5, "5") + NO_TUPLES:
            self.assert_fault("steps", None, replaced(SMALL, 2, steps))

    def test_each_step(self):
        for step in (1, 2, 9998, 9999):
            self.assert_coder(replaced(SMALL, 2, (step, 5, step)))
        for step in (0, -1, 10000) + WRONG_NUMBERS:
            for index in (0, 1, 15):
                self.assert_fault("steps", index, replaced(SMALL, 2, replaced((5,) * 16, index, step)))

    def test_first_wrong_step(self):
        self.assert_fault("steps", 1, replaced(SMALL, 2, (1, 0, 10000, None)))
        self.assert_fault("steps", None, replaced(SMALL, 2, (0,) * 17))

    def test_numbers_of_moves(self):
        for many in (2, 3, 15, 16):
            self.assert_coder(replaced(SMALL, 3, ((1, 1),) * many))
        for moves in ((), ((1, 1),), ((1, 1),) * 17, [(1, 1), (1, 1)], "ab") + NO_TUPLES:
            self.assert_fault("moves", None, replaced(SMALL, 3, moves))

    def test_each_move(self):
        for move in ((-32, 0), (32, 0), (0, -15), (0, 15), (0, 0), (-32, 15), (32, -15)):
            self.assert_coder(replaced(SMALL, 3, ((1, 1), move)))
        wrong = [(-33, 0), (33, 0), (0, -16), (0, 16), (1,), (1, 1, 1), [1, 1], "ab", {1: 1, 2: 2}]
        wrong += [(thing, 0) for thing in WRONG_NUMBERS] + [(0, thing) for thing in WRONG_NUMBERS]
        for move in wrong + list(NO_TUPLES):
            for index in (0, 1, 15):
                self.assert_fault("moves", index, replaced(SMALL, 3, replaced(((1, 1),) * 16, index, move)))

    def test_first_wrong_move(self):
        self.assert_fault("moves", 1, replaced(SMALL, 3, ((1, 1), (33, 0), (0, 16), None)))
        self.assert_fault("moves", None, replaced(SMALL, 3, ((33, 0),)))

    def test_the_first_of_two_faults(self):
        for at, (part, index, thing) in enumerate(PARTS):
            for other, later, wrong in PARTS[at + 1:]:
                self.assert_fault(part, None, replaced(replaced(SMALL, index, thing), later, wrong))
        self.assert_fault("steps", 2, replaced(replaced(SMALL, 2, (1, 2, 0)), 3, None))
        self.assert_fault("steps", 2, replaced(replaced(SMALL, 2, (1, 2, 0)), 4, None))
        self.assert_fault("moves", 1, replaced(replaced(SMALL, 3, ((1, 1), None)), 4, None))
        self.assert_fault("form", None, (1, -1, (), ()))

    def test_true_and_false_are_no_integers(self):
        for flag in (True, False):
            self.assert_fault("low", None, replaced(LEAST, 0, flag))
            self.assert_fault("high", None, replaced(LEAST, 1, flag))
            self.assert_fault("steps", 0, replaced(LEAST, 2, (flag,)))
            self.assert_fault("moves", 1, replaced(LEAST, 3, ((1, 1), (flag, 1))))
            self.assert_fault("moves", 0, replaced(LEAST, 3, ((1, flag), (1, 1))))
            self.assert_fault("fade", None, replaced(LEAST, 4, flag))

    def test_numbers_of_a_thousand_digits(self):
        self.assert_fault("low", None, (-HUGE, HUGE, (HUGE,), ((HUGE, HUGE),), HUGE))
        self.assert_fault("form", None, HUGE)


if __name__ == "__main__":
    unittest.main()
