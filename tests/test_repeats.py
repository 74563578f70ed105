"""Rows that are repeated: [1], [5], [23]."""

import unittest
from random import Random

from stepsound.errors import BadCoder, BadRow, OutOfPlace, TooGreat
from stepsound.repeats import last_of, sample_at, settling
from tests.things import CLIMB, FADING, GREATEST, HUGE, LEAST, NO_CODERS, NO_TUPLES, Refusals, SMALL, TINY
from tests.things import WRONG_NUMBERS, coder_with, no_states, random_coders, random_row, replaced, states, told_row

MOST = 10 ** 30
# Each call with something in the place of a number that is wrong or lacks.
CALLS = (
    lambda coder, row, number=None, **named: settling(coder, row, **named),
    last_of,
    sample_at,
)


def told_states(coder, row, state, many):
    """The states behind 0, 1 .. MANY repetitions."""
    found = [state]
    for _ in range(many):
        found.append(told_row(coder, row, found[-1])[1])
    return found


def told_settling(coder, row, state):
    times = 0
    while True:
        behind = told_row(coder, row, state)[1]
        if behind == state:
            return times, state
        times, state = times + 1, behind


def some_rows(coders):
    """Coders with 4,096 states at most, with a row and a state of each."""
    rng = Random(5)
    for coder in coders:
        if (coder[1] - coder[0] + 1) * len(coder[2]) <= 4096:
            for many in (1, 1, 2, 3, 7):
                yield coder, random_row(rng, coder, many), rng.choice(states(coder))


class SettlingTest(unittest.TestCase):
    def test_the_example(self):
        self.assertEqual(settling(TINY, (0,), state=(-1, 0)), (2, (1, 0)))
        self.assertEqual(settling(coder=TINY, row=(0,), state=(0, 0)), (1, (1, 0)))
        self.assertEqual(settling(TINY, (0,), state=(1, 0)), (0, (1, 0)))

    def test_the_state_left_out_is_start(self):
        self.assertEqual(settling(TINY, (0,)), (1, (1, 0)))
        self.assertEqual(last_of(TINY, (0,), 0), (0, 0))
        self.assertEqual(sample_at(TINY, (1,), 0), -1)

    def test_the_empty_row(self):
        for coder in (SMALL, TINY, FADING, LEAST):
            for state in states(coder):
                self.assertEqual(settling(coder, (), state=state), (0, state))
                for times in (0, 1, MOST):
                    self.assertEqual(last_of(coder, (), times, state=state), state)

    def test_settled_at_once(self):
        self.assertEqual(settling(TINY, (0, 1)), (0, (0, 0)))
        self.assertEqual(settling(SMALL, (0, 1), state=(3, 0)), (0, (3, 0)))
        self.assertEqual(settling(FADING, (0,) * 9 + (1,), state=(0, 0))[1][1], 2)
        self.assertEqual(settling(LEAST, (0, 1, 0)), (0, (0, 0)))

    def test_every_state_of_the_coders(self):
        for coder in (SMALL, TINY, CLIMB, FADING):
            for row in ((0,), (1,), (0, 1), (1, 0, 0), (0, 0, 1, 1, 0)):
                for state in states(coder):
                    self.assertEqual(settling(coder, row, state=state), told_settling(coder, row, state))

    def test_random_rows(self):
        for coder, row, state in some_rows(random_coders(150)):
            found = settling(coder, row, state=state)
            self.assertEqual(found, told_settling(coder, row, state))
            self.assertEqual((found.__class__, found[0].__class__, found[1].__class__), (tuple, int, tuple))

    def test_the_place_moves_while_the_level_stays(self):
        coder = (0, 0, (1,) * 16, ((0, 1), (0, -1)), 0)
        self.assertEqual(settling(coder, (0,)), (15, (0, 15)))
        self.assertEqual(settling(coder, (1,), state=(0, 9)), (9, (0, 0)))
        # Only at the last place does the step move the level.
        coder = (-9, 9, (1,) * 15 + (8,), ((1, 1), (-1, -1)), 0)
        self.assertEqual(settling(coder, (0,), state=(0, 0)), (24, (9, 15)))

    def test_the_level_turns_with_the_place(self):
        # At the first place the row goes up by 1, at the last one down by 2.
        coder = (-20, 20, (8, 16), ((-3, 1), (2, 0)), 0)
        self.assertEqual(settling(coder, (0, 1)), (10, (-16, 1)))
        self.assertEqual([last_of(coder, (0, 1), times) for times in range(4)], [(0, 0), (1, 1), (-1, 1), (-3, 1)])

    def test_as_many_repetitions_as_levels(self):
        coder = (-2048, 2047, (8,), ((1, 0), (-1, 0)), 0)
        long_row = (0,) * 1001 + (1,) * 999
        for row, ahead, times, level in (((0,), 2046, 4095, 2047), ((0, 1, 0), 2046, 4095, 2047),
                                         (long_row, 1046, 1548, 1048)):
            self.assertEqual(settling(coder, row, state=(-2048, 0)), (times, (level, 0)))
            self.assertEqual(last_of(coder, row, times - 1, state=(-2048, 0)), (ahead, 0))
            self.assertEqual(last_of(coder, row, times, state=(-2048, 0)), (level, 0))
            self.assertEqual(sample_at(coder, row, len(row) * times - 1, state=(-2048, 0)), level)

    def test_a_fade_that_ends_between_the_limits(self):
        coder = (-2048, 2047, (8,), ((1, 0), (-1, 0)), 99)
        self.assertEqual(settling(coder, (0,), state=(2047, 0))[1], (197, 0))
        self.assertEqual(settling(coder, (0,))[1], (99, 0))
        self.assertEqual(settling(coder, (0,), state=(-98, 0)), (197, (99, 0)))

    def test_without_a_fade_at_one_limit(self):
        """[23]: at B if D is above 0, at A if D is below 0."""
        seen = {1: 0, -1: 0}
        for coder, row, state in some_rows(coder[:4] + (0,) for coder in random_coders(200)):
            settled = settling(coder, row, state=state)[1]
            low, high, steps, moves, _ = coder
            place, total = settled[1], 0
            for code in row:
                change = abs(moves[code][0]) * steps[place] // 8
                total += change if moves[code][0] > 0 else -change
                place = min(max(place + moves[code][1], 0), len(steps) - 1)
            self.assertEqual(place, settled[1])
            if total:
                sign = 1 if total > 0 else -1
                limit = high if total > 0 else low
                self.assertEqual(settled, told_row(coder, row, (limit, place))[1])
                seen[sign] += 1
        self.assertTrue(min(seen.values()) > 50)


class RepeatsTest(unittest.TestCase):
    def test_times_about_the_settling(self):
        for coder, row, state in some_rows(list(random_coders(60)) + [SMALL, TINY, CLIMB, FADING]):
            many, settled = told_settling(coder, row, state)
            told = told_states(coder, row, state, many + 2)
            for times in {0, 1, max(many - 1, 0), many, many + 1, many // 2}:
                found = last_of(coder, row, times, state=state)
                self.assertEqual(found, told[times])
                self.assertIs(found.__class__, tuple)
            for times in (many + 2, 10 ** 9, MOST - 1, MOST):
                self.assertEqual(last_of(coder=coder, row=row, times=times, state=state), settled)

    def test_plain_repetition(self):
        for coder, row, state in some_rows(list(random_coders(60)) + [SMALL, TINY, CLIMB, FADING]):
            plain = told_row(coder, row * 12, state)[0]
            found = tuple(sample_at(coder, row, number, state=state) for number in range(len(plain)))
            self.assertEqual(found, plain)

    def test_the_ends_of_repetitions(self):
        row, many = (2, 0, 1, 3, 2), 5
        for state in states(SMALL):
            plain = told_row(SMALL, row * 40, state)[0]
            for times in range(39):
                for number in (many * times, many * times + 1, many * (times + 1) - 1):
                    self.assertEqual(sample_at(SMALL, row, number, state=state), plain[number])

    def test_great_numbers(self):
        # Settled, the row (0, 1) of TINY is heard as 1, 0 again and again.
        self.assertEqual(sample_at(TINY, (0, 1), MOST), 1)
        self.assertEqual(sample_at(TINY, (0, 1), MOST - 1), 0)
        self.assertEqual(sample_at(coder=TINY, row=(0, 1), number=MOST - 2, state=(-1, 0)), 0)
        for coder, row, state in some_rows(random_coders(60)):
            settled = told_settling(coder, row, state)[1]
            samples = told_row(coder, row, settled)[0]
            for number in (MOST, MOST - 1, MOST // 7, MOST - len(row)):
                self.assertEqual(sample_at(coder, row, number, state=state), samples[number % len(row)])

    def test_long_rows(self):
        rng = Random(8)
        for coder in (SMALL, FADING):
            row = random_row(rng, coder, 2000)
            plain = told_row(coder, row * 3, (0, 0))
            self.assertEqual(last_of(coder, row, 3), plain[1])
            for number in (0, 1999, 2000, 2001, 3999, 4000, 5999):
                self.assertEqual(sample_at(coder, row, number), plain[0][number])

    def test_the_most_states(self):
        for coder in (coder_with(4096), coder_with(256, 16), coder_with(4096, fade=99), coder_with(2048, 2, 2)):
            low, last = coder[0], len(coder[2]) - 1
            self.assertEqual(settling(coder, (0,), state=(low, 0)), told_settling(coder, (0,), (low, 0)))
            self.assertEqual(last_of(coder, (1,), MOST, state=(low, last)),
                             told_settling(coder, (1,), (low, last))[1])
            self.assertEqual(sample_at(coder, (2,), 0, state=(low, 0)), told_row(coder, (2,), (low, 0))[0][0])

    def test_nothing_is_kept(self):
        first = [call(SMALL, (2, 0), 3, state=(1, 1)) for call in CALLS]
        for call in CALLS:
            with self.assertRaises(OutOfPlace):
                call(SMALL, (2, 0), 3, state=(9, 9))
        self.assertEqual([call(SMALL, (2, 0), 3, state=(1, 1)) for call in CALLS], first)


class RefusedTest(Refusals, unittest.TestCase):
    def test_no_coder(self):
        for call in CALLS:
            for thing in NO_CODERS:
                self.assert_refused(BadCoder, {}, call, thing, None, None, state=None)
            self.assert_refused(BadCoder, {"part": "fade", "number": None}, call, replaced(GREATEST, 4, 1), (0,), 0)

    def test_too_many_states(self):
        for coder in (coder_with(4097), coder_with(257, 16), coder_with(2049, 2), coder_with(4097, 1, 2), GREATEST):
            for call in CALLS:
                self.assert_refused(TooGreat, {"most": 4096}, call, coder, (0,), 0)
                self.assert_refused(TooGreat, {"most": 4096}, call, coder, None, None, state=None)

    def test_no_row(self):
        for call in CALLS:
            for thing in NO_TUPLES:
                self.assert_refused(BadRow, {"row": 0, "word": 0}, call, SMALL, thing, None, state=None)
            for thing in WRONG_NUMBERS + (-1, 4, HUGE):
                self.assert_refused(BadRow, {"row": 1, "word": 3}, call, SMALL, (0, 3, thing, None), None, state=None)
            self.assert_refused(BadRow, {"row": 1, "word": 2001}, call, SMALL, (0,) * 2001, 0)

    def test_no_number(self):
        for call in (last_of, sample_at):
            for thing in WRONG_NUMBERS + (-1, MOST + 1, -MOST):
                self.assert_refused(OutOfPlace, {}, call, SMALL, (0, 1), thing)
                self.assert_refused(OutOfPlace, {}, call, SMALL, (), thing)
        self.assert_refused(OutOfPlace, {}, last_of, coder=SMALL, row=(0,), times=None)
        self.assert_refused(OutOfPlace, {}, sample_at, coder=SMALL, row=(0,), number=None)

    def test_no_state(self):
        for call in CALLS:
            for thing in no_states(SMALL):
                self.assert_refused(OutOfPlace, {}, call, SMALL, (), 0, state=thing)
                self.assert_refused(OutOfPlace, {}, call, SMALL, (0, 1), 0, state=thing)

    def test_no_samples_of_an_empty_row(self):
        for coder in (SMALL, LEAST, FADING):
            for number in (0, 1, MOST):
                self.assert_refused(OutOfPlace, {}, sample_at, coder, (), number)

    def test_the_state_by_keyword_alone(self):
        for call, more in ((settling, ()), (last_of, (1,)), (sample_at, (1,))):
            with self.assertRaises(TypeError):
                call(SMALL, (0,), *more, (0, 0))


if __name__ == "__main__":
    unittest.main()
