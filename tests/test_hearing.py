"""What is heard of rows, and their last states: [1], [3], [4]."""

import copy
import unittest
from random import Random

from stepsound.coders import led_to
from stepsound.errors import BadCoder, BadRow, OutOfPlace
from stepsound.hearing import heard, last_state
from tests.things import CLIMB, CODERS, FADING, HUGE, NO_CODERS, NO_TUPLES, Refusals, SMALL, TINY, WRONG_NUMBERS
from tests.things import no_states, random_coders, random_row, replaced, states, told_row

BOTH = (heard, last_state)


class HearingTest(Refusals, unittest.TestCase):
    def assert_row(self, row, word, *args, **named):
        for call in BOTH:
            self.assert_refused(BadRow, {"row": row, "word": word}, call, *args, **named)

    def test_the_example(self):
        self.assertEqual(heard(SMALL, (2, 2, 0, 3)), (2, 6, 7, 3))
        self.assertEqual(last_state(SMALL, (2, 2, 0, 3)), (3, 2))
        lasts = [last_state(SMALL, (2, 2, 0, 3)[:many]) for many in range(5)]
        self.assertEqual(lasts, [(0, 0), (2, 1), (6, 2), (7, 1), (3, 2)])

    def test_the_other_examples(self):
        self.assertEqual(heard(CLIMB, (0, 0)), (1, 2))
        self.assertEqual(heard(CLIMB, (1, 0)), (1, 5))
        self.assertEqual(heard(TINY, (0,), state=(-1, 0)), (0,))
        self.assertEqual(heard(TINY, (1, 1, 0), state=(1, 0)), (0, -1, 0))

    def test_the_empty_row(self):
        for coder in CODERS:
            self.assertEqual(heard(coder, ()), ())
            self.assertEqual(last_state(coder, ()), (0, 0))
        for state in states(SMALL):
            self.assertEqual(heard(SMALL, (), state=state), ())
            self.assertEqual(last_state(SMALL, (), state=state), state)

    def test_the_state_left_out_is_start(self):
        rng = Random(1)
        for coder in random_coders(50):
            row = random_row(rng, coder, 20)
            self.assertEqual(heard(coder, row), heard(coder, row, state=(0, 0)))
            self.assertEqual(last_state(coder, row), last_state(coder, row, state=(0, 0)))

    def test_every_state_and_random_rows(self):
        rng = Random(2)
        for coder in [SMALL, TINY, CLIMB, FADING] + list(random_coders(10)):
            for state in states(coder):
                row = random_row(rng, coder, rng.randint(0, 30))
                samples, last = told_row(coder, row, state)
                self.assertEqual(heard(coder=coder, row=row, state=state), samples)
                self.assertEqual(last_state(coder=coder, row=row, state=state), last)
                self.assertIs(heard(coder, row, state=state).__class__, tuple)

    def test_code_by_code(self):
        rng = Random(3)
        for coder in random_coders(20):
            row, state, samples = random_row(rng, coder, 40), (0, 0), []
            for code in row:
                state = led_to(coder, state, code)
                samples.append(state[0])
            self.assertEqual((heard(coder, row), last_state(coder, row)), (tuple(samples), state))

    def test_two_rows_one_behind_the_other(self):
        rng = Random(4)
        for coder in random_coders(50):
            one, two = random_row(rng, coder, 15), random_row(rng, coder, 15)
            between = last_state(coder, one)
            self.assertEqual(heard(coder, one + two), heard(coder, one) + heard(coder, two, state=between))
            self.assertEqual(last_state(coder, one + two), last_state(coder, two, state=between))

    def test_the_opposite_coder(self):
        rng = Random(5)
        for coder in random_coders(50):
            low, high, steps, moves, fade = coder
            opposite = (-high, -low, steps, tuple((-share, turn) for share, turn in moves), fade)
            row = random_row(rng, coder, 30)
            self.assertEqual(heard(opposite, row, state=(-high, 0)),
                             tuple(-sample for sample in heard(coder, row, state=(high, 0))))

    def test_the_longest_row(self):
        for coder in (SMALL, FADING):
            row = random_row(Random(6), coder, 2000)
            samples, last = told_row(coder, row, (0, 0))
            self.assertEqual((heard(coder, row), last_state(coder, row)), (samples, last))
            self.assertEqual(len(samples), 2000)

    def test_a_row_too_long(self):
        for many in (2001, 2002, 5000):
            self.assert_row(1, 2001, SMALL, (0,) * many)
        self.assert_row(1, 2001, SMALL, (0,) * 2000 + (4,))
        self.assert_row(1, 2000, SMALL, (0,) * 1999 + (4,) + (0,) * 10)
        self.assert_row(1, 1, SMALL, (None,) * 5000)

    def test_no_tuple(self):
        for thing in NO_TUPLES:
            self.assert_row(0, 0, SMALL, thing)
        self.assert_row(0, 0, SMALL, [0] * 3000)

    def test_no_codes(self):
        for thing in WRONG_NUMBERS + (-1, 4, 16, HUGE):
            for index in (0, 1, 7):
                self.assert_row(1, index + 1, SMALL, replaced((0,) * 8, index, thing))
        self.assert_row(1, 3, SMALL, (0, 3, 4, None, -1))
        self.assert_row(1, 2, TINY, (1, 2))
        for call in BOTH:
            self.assert_refused(BadRow, {"row": 1, "word": 1}, call, coder=SMALL, row=(4,))

    def test_no_state(self):
        for call in BOTH:
            for coder in (SMALL, TINY, FADING):
                for thing in no_states(coder):
                    self.assert_refused(OutOfPlace, {}, call, coder, (), state=thing)
                    self.assert_refused(OutOfPlace, {}, call, coder, (0, 1), state=thing)

    def test_no_coder(self):
        for call in BOTH:
            for thing in NO_CODERS:
                self.assert_refused(BadCoder, {}, call, thing, None)
                self.assert_refused(BadCoder, {}, call, thing, (0, None), state=None)
            self.assert_refused(BadCoder, {"part": "low", "number": None}, call, replaced(SMALL, 0, 1), ())

    def test_the_row_ahead_of_the_state(self):
        for state in (None, (9, 9), True):
            self.assert_row(0, 0, SMALL, [], state=state)
            self.assert_row(1, 2, SMALL, (0, 4), state=state)
            self.assert_row(1, 2001, SMALL, (0,) * 2001, state=state)

    def test_the_state_by_keyword_alone(self):
        for call in BOTH:
            with self.assertRaises(TypeError):
                call(SMALL, (), (0, 0))

    def test_nothing_is_changed(self):
        row, state = (2, 2, 0, 3), (1, 1)
        kept = copy.deepcopy((SMALL, row, state))
        for call in BOTH:
            first = call(SMALL, row, state=state)
            with self.assertRaises(BadRow):
                call(SMALL, (2, 2, 9), state=state)
            self.assertEqual(call(SMALL, row, state=state), first)
        self.assertEqual((SMALL, row, state), kept)


if __name__ == "__main__":
    unittest.main()
