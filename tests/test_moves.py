"""The states of a coder, and where codes lead them: [1], [3], [4]."""

import unittest

from stepsound.coders import change_of, led_to, states_of
from stepsound.errors import BadCoder, OutOfPlace, TooGreat
from tests.things import CLIMB, FADING, GREATEST, LEAST, NO_CODERS, Refusals, SMALL, TINY, WRONG_NUMBERS
from tests.things import no_states, random_coders, replaced, states, told_step

# One step of 8, so that a share is its change.
PLAIN = (-100, 100, (8,), tuple((share, 0) for share in (-32, -9, -1, 0, 1, 9, 32)), 0)


class StatesTest(Refusals, unittest.TestCase):
    def test_states(self):
        self.assertEqual(states_of(TINY), ((-1, 0), (0, 0), (1, 0)))
        self.assertEqual(states_of(LEAST), ((0, 0),))
        self.assertEqual(states_of(CLIMB)[:3], ((0, 0), (0, 1), (1, 0)))
        for coder in (SMALL, CLIMB, FADING):
            told = states_of(coder=coder)
            self.assertIsInstance(told, tuple)
            self.assertEqual(told, tuple(states(coder)))

    def test_the_most_states(self):
        for low, high, many in ((-2048, 2047, 1), (0, 4095, 1), (-100, 155, 16), (-4095, 0, 1)):
            coder = (low, high, (1,) * many, TINY[3], 0)
            self.assertEqual(states_of(coder), tuple(states(coder)))
            self.assertEqual(len(states_of(coder)), 4096)

    def test_too_many_states(self):
        for low, high, many in ((-2048, 2048, 1), (0, 4096, 1), (-4096, 0, 1), (0, 585, 7), (-100, 156, 16)):
            coder = (low, high, (1,) * many, TINY[3], 0)
            self.assert_refused(TooGreat, {"most": 4096}, states_of, coder)
        self.assert_refused(TooGreat, {"most": 4096}, states_of, GREATEST)

    def test_no_coder_ahead_of_too_many_states(self):
        for thing in NO_CODERS:
            self.assert_refused(BadCoder, {}, states_of, thing)
        self.assert_refused(BadCoder, {"part": "fade", "number": None}, states_of, replaced(GREATEST, 4, 1))


class ChangeTest(Refusals, unittest.TestCase):
    def test_the_example(self):
        changes = [[change_of(SMALL, code, place) for code in range(4)] for place in range(3)]
        self.assertEqual(changes, [[1, -1, 2, -2], [2, -2, 4, -4], [4, -4, 8, -8]])

    def test_rounded_toward_0(self):
        told = {(1, 7): 0, (-1, 7): 0, (1, 8): 1, (-1, 8): -1, (-1, 9): -1, (-3, 5): -1, (3, 5): 1,
                (-5, 3): -1, (-7, 9): -7, (7, 9): 7, (-32, 9999): -39996, (32, 9999): 39996, (0, 9999): 0}
        for (share, step), change in told.items():
            coder = (0, 0, (1, step), ((share, 0), (0, 0)), 0)
            self.assertEqual(change_of(coder, 0, 1), change)

    def test_every_change(self):
        for coder in random_coders(60):
            for code in range(len(coder[3])):
                for place in range(len(coder[2])):
                    change = change_of(coder, code=code, place=place)
                    self.assertEqual(change, told_step(coder, (0, place), code)[0])
                    self.assertIs(change.__class__, int)

    def test_a_change_goes_beyond_the_limits(self):
        self.assertEqual(change_of((0, 0, (9999,), ((32, 0), (-32, 0)), 99), 1, 0), -39996)

    def test_wrong_things(self):
        for thing in NO_CODERS:
            self.assert_refused(BadCoder, {}, change_of, thing, None, None)
        for thing in WRONG_NUMBERS + (-1, 4, 16):
            self.assert_refused(OutOfPlace, {}, change_of, SMALL, thing, 0)
        for thing in WRONG_NUMBERS + (-1, 3, 16):
            self.assert_refused(OutOfPlace, {}, change_of, SMALL, 0, thing)
        self.assert_refused(OutOfPlace, {}, change_of, coder=SMALL, code=None, place=None)


class LedToTest(Refusals, unittest.TestCase):
    def test_the_example(self):
        state = (0, 0)
        for code, behind in ((2, (2, 1)), (2, (6, 2)), (0, (7, 1)), (3, (3, 2))):
            state = led_to(SMALL, state, code)
            self.assertEqual(state, behind)

    def test_both_limits(self):
        for level, code, behind in ((100, 4, 100), (99, 4, 100), (99, 5, 100), (-100, 2, -100), (-99, 2, -100),
                                    (-99, 1, -100), (68, 6, 100), (69, 6, 100), (-68, 0, -100), (100, 2, 99)):
            self.assertEqual(led_to(PLAIN, (level, 0), code), (behind, 0))
        self.assertEqual(led_to((0, 0, (9999,), ((32, 0), (-32, 0)), 0), (0, 0), 0), (0, 0))

    def test_both_ends_of_the_places(self):
        coder = (0, 0, (1,) * 16, ((0, 15), (0, -15), (0, 1), (0, -1), (0, 0)), 0)
        for place in range(16):
            self.assertEqual([led_to(coder, (0, place), code)[1] for code in range(5)],
                             [15, 0, min(place + 1, 15), max(place - 1, 0), place])

    def test_the_step_is_that_ahead_of_the_turn(self):
        self.assertEqual(led_to(CLIMB, (0, 0), 1), (1, 1))
        self.assertEqual(led_to(CLIMB, (0, 1), 0), (4, 0))

    def test_a_fade(self):
        coder = (-100, 100, (8,), ((0, 0), (1, 0), (-1, 0)), 3)
        for level, left in ((0, 0), (1, 1), (2, 2), (3, 2), (4, 3), (5, 4), (6, 4), (100, 67)):
            self.assertEqual(led_to(coder, (level, 0), 0), (left, 0))
            self.assertEqual(led_to(coder, (-level, 0), 0), (-left, 0))
            self.assertEqual(led_to(coder, (-level, 0), 1), (1 - left, 0))
            self.assertEqual(led_to(coder, (level, 0), 2), (left - 1, 0))

    def test_the_fade_and_the_change_are_rounded_apart(self):
        # -7 / 2 and 5 / 8: -7 + 3 + 0; together they would be more.
        self.assertEqual(led_to((-9, 9, (5,), ((1, 0), (-1, 0)), 2), (-7, 0), 0), (-4, 0))
        # Only the sum is limited: 9 - 4 + 5, not what lies between.
        self.assertEqual(led_to((-9, 9, (40,), ((1, 0), (-1, 0)), 2), (9, 0), 0), (9, 0))

    def test_the_least_and_the_greatest_fade(self):
        for fade, left in ((2, 4), (99, 7)):
            self.assertEqual(led_to((-9, 9, (1,), ((0, 0), (0, 0)), fade), (7, 0), 0), (left, 0))
        coder = (-200, 200, (1,), ((0, 0), (0, 0)), 99)
        for level, left in ((98, 98), (99, 98), (-98, -98), (-99, -98), (198, 196), (-198, -196)):
            self.assertEqual(led_to(coder, (level, 0), 1), (left, 0))

    def test_every_state(self):
        for coder in random_coders(25):
            for state in states(coder):
                for code in range(len(coder[3])):
                    behind = led_to(coder, state=state, code=code)
                    self.assertEqual(behind, told_step(coder, state, code)[1])
                    self.assertIs(behind.__class__, tuple)

    def test_the_greatest_coder(self):
        self.assertEqual(led_to(GREATEST, (-32768, 0), 0), (-32768 + 330 + 39996, 15))
        self.assertEqual(led_to(GREATEST, (32767, 15), 15), (32767, 15))

    def test_wrong_coders(self):
        for thing in NO_CODERS:
            self.assert_refused(BadCoder, {}, led_to, thing, None, None)

    def test_wrong_states(self):
        for thing in no_states(SMALL):
            self.assert_refused(OutOfPlace, {}, led_to, SMALL, thing, 0)

    def test_wrong_codes(self):
        for thing in WRONG_NUMBERS + (-1, 4, 16):
            self.assert_refused(OutOfPlace, {}, led_to, SMALL, (0, 0), thing)
        self.assert_refused(OutOfPlace, {}, led_to, coder=SMALL, state=None, code=None)


if __name__ == "__main__":
    unittest.main()
