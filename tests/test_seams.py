"""States that rows lead to, ways and seams: [1], [16]."""

import unittest
from random import Random

from stepsound.errors import BadCoder, BadRow, OutOfPlace, TooGreat
from stepsound.hearing import heard
from stepsound.seams import reached, row_to, seam
from tests.search import few_coders, rows_from, told_seam
from tests.things import CLIMB, DROPS, FADING, GREATEST, HUGE, LEAST, NO_CODERS, NO_TUPLES, Refusals, SMALL, STILL, TINY
from tests.things import coder_with, no_states, random_row, replaced, states, told_row

START = (0, 0)
# Each code goes down by 1, or up by 2.
STEPS = (-7, 8, (8,), ((-1, 0), (2, 0)), 0)
CALLS = (
    lambda coder, one, **named: reached(coder, one),
    lambda coder, one, **named: row_to(coder, one, None),
    lambda coder, one, **named: seam(coder, one, None, **named),
)


class ReachedTest(unittest.TestCase):
    def test_told_states(self):
        self.assertEqual(reached(TINY, START), ((-1, 0), (0, 0), (1, 0)))
        self.assertEqual(reached(coder=DROPS, one=(2, 0)), ((2, 0), (3, 0)))
        self.assertEqual(reached(STILL, (1, 1)), ((1, 1),))
        self.assertEqual(reached(LEAST, START), (START,))
        # The first place is left by each code.
        self.assertEqual(reached((0, 1, (8, 8), ((1, 1), (0, 1)), 0), START), ((0, 0), (0, 1), (1, 1)))

    def test_against_all_rows(self):
        for coder in list(few_coders(150)) + [SMALL, TINY, CLIMB, DROPS, STILL, LEAST]:
            for one in states(coder)[::3]:
                told = reached(coder, one)
                self.assertEqual(told, tuple(sorted(rows_from(coder, one))))
                self.assertIs(told.__class__, tuple)

    def test_the_most_states(self):
        self.assertEqual(reached(coder_with(4096), START), tuple(states(coder_with(4096))))
        for coder in (coder_with(256, 16), coder_with(4096, fade=2), coder_with(2048, 2)):
            self.assertTrue(START in reached(coder, START))


class WayTest(unittest.TestCase):
    def test_told_ways(self):
        self.assertEqual(row_to(TINY, (-1, 0), (1, 0)), (0, 0))
        self.assertEqual(row_to(coder=TINY, one=(1, 0), other=(0, 0)), (1,))
        self.assertEqual(row_to(STEPS, START, (1, 0)), (0, 1))
        self.assertEqual(row_to(STEPS, START, (3, 0)), (0, 1, 1))
        self.assertIsNone(row_to(DROPS, (1, 0), (0, 0)))
        self.assertIsNone(row_to(STILL, (0, 0), (0, 1)))

    def test_the_empty_row(self):
        for coder in (SMALL, TINY, CLIMB, FADING, STILL, LEAST):
            for state in states(coder):
                self.assertEqual(row_to(coder, state, state), ())

    def test_of_several_shortest_rows_the_first(self):
        self.assertEqual(row_to((0, 2, (8,), ((1, 0), (2, 0), (1, 0)), 0), START, (2, 0)), (1,))
        self.assertEqual(row_to((0, 2, (8,), ((1, 0), (1, 0)), 0), START, (2, 0)), (0, 0))
        # The states behind the codes 1 and 0 are found in the order of the codes, not of the states.
        coder = (-9, 9, (8,), ((3, 0), (-3, 0), (-1, 0), (1, 0)), 0)
        self.assertEqual(row_to(coder, START, (-2, 0)), (1, 3))
        self.assertEqual(row_to(coder, START, (4, 0)), (0, 3))

    def test_against_all_rows(self):
        nones = 0
        for coder in list(few_coders(150)) + [SMALL, TINY, CLIMB, DROPS, STILL, LEAST, STEPS]:
            for one in states(coder)[::3]:
                rows = rows_from(coder, one)
                for other in states(coder):
                    row = row_to(coder, one, other)
                    self.assertEqual(row, rows.get(other))
                    nones += row is None
        self.assertTrue(nones > 300)

    def test_long_ways(self):
        coder = coder_with(4096)
        codes = row_to(coder, (-2048, 0), (2047, 0))
        self.assertEqual(codes, (2,) * 1365)
        # No code of three goes down by more than 1.
        self.assertEqual(row_to(coder, (2047, 0), (-2048, 0)), (1,) * 4095)
        slow = (-2048, 2047, (8,), ((1, 0), (0, 0)), 0)
        self.assertEqual(row_to(slow, (-2048, 0), (2047, 0)), (0,) * 4095)
        self.assertIsNone(row_to(slow, (2047, 0), (2046, 0)))

    def test_sixteen_places_and_moves(self):
        coder = (-128, 127, tuple(range(1, 17)), tuple((share, share // 2) for share in range(-16, 16, 2)), 0)
        others = reached(coder, START)
        self.assertTrue(len(others) > 3000)
        for other in others[::600]:
            row = row_to(coder, START, other)
            self.assertEqual(told_row(coder, row, START)[1], other)


class SeamTest(unittest.TestCase):
    def test_the_example(self):
        self.assertEqual(seam(TINY, (1, 0), (0,), state=(-1, 0)), (1, 1))
        self.assertEqual(seam(coder=TINY, one=(1, 0), row=(0,), state=(-1, 0)), (1, 1))

    def test_the_state_left_out_is_start(self):
        for one in states(TINY):
            for row in ((), (0,), (0, 1), (1, 1, 0)):
                self.assertEqual(seam(TINY, one, row), seam(TINY, one, row, state=START))

    def test_no_codes_are_needed(self):
        for coder in (SMALL, TINY, CLIMB, FADING, STILL, LEAST):
            for state in states(coder)[::2]:
                # The empty row is heard alike from everywhere.
                self.assertEqual(seam(coder, state, (), state=states(coder)[-1]), ())
                self.assertEqual(seam(coder, state, (0, 1), state=state), ())
        # At the limit one code is heard alike from two levels, but two are not.
        self.assertEqual(seam(TINY, (0, 0), (0,), state=(1, 0)), ())
        self.assertEqual(seam(TINY, (0, 0), (0, 1), state=(1, 0)), ())
        self.assertEqual(seam(TINY, (0, 0), (1, 0), state=(1, 0)), (0,))
        self.assertEqual(seam(STILL, (1, 0), (0, 1), state=(1, 1)), ())

    def test_another_state_that_sounds_alike(self):
        # From (1, 1) the first code is heard as from (1, 0); the second one is not.
        coder = (0, 4, (8, 16), ((1, 0), (-1, 0), (0, 1)), 0)
        self.assertEqual(seam(coder, START, (2,), state=(1, 1)), (0,))
        self.assertEqual(seam(coder, START, (2, 0), state=(1, 1)), (0,))
        self.assertEqual(seam(coder, START, (0, 2), state=(1, 1)), (0, 0))
        self.assertEqual(seam(coder, (4, 0), (0,), state=(4, 1)), ())

    def test_none(self):
        self.assertIsNone(seam(DROPS, (3, 0), (0,), state=START))
        self.assertIsNone(seam(STILL, (1, 0), (0,), state=START))

    def test_against_all_rows(self):
        rng = Random(71)
        found = {}
        for coder in list(few_coders(200)) + [SMALL, TINY, CLIMB, DROPS, STILL, LEAST, STEPS]:
            for many in range(5):
                row = random_row(rng, coder, many)
                one, state = rng.choice(states(coder)), rng.choice(states(coder))
                told = seam(coder, one, row, state=state)
                self.assertEqual(told, told_seam(coder, one, row, state))
                found[told if told is None else len(told)] = True
        self.assertTrue({None, 0, 1, 2, 3} <= set(found), found)

    def test_long_rows_and_seams(self):
        rng = Random(72)
        for coder in (coder_with(4096), coder_with(256, 16), coder_with(4096, fade=2)):
            row = random_row(rng, coder, 2000)
            one = (coder[1], len(coder[2]) - 1)
            told = seam(coder, one, row)
            last = told_row(coder, told, one)[1]
            self.assertEqual(heard(coder, row, state=last), heard(coder, row))
        self.assertEqual(seam(coder_with(4096), (2047, 0), (0,), state=(-2048, 0)), (1,) * 4095)

    def test_nothing_is_kept(self):
        first = reached(SMALL, START), row_to(SMALL, START, (7, 0)), seam(SMALL, START, (1, 2), state=(7, 1))
        with self.assertRaises(OutOfPlace):
            seam(SMALL, None, (1, 2))
        self.assertEqual((reached(SMALL, START), row_to(SMALL, START, (7, 0)),
                          seam(SMALL, START, (1, 2), state=(7, 1))), first)


class RefusedTest(Refusals, unittest.TestCase):
    def test_no_coder(self):
        for thing in NO_CODERS:
            for call in CALLS:
                self.assert_refused(BadCoder, {}, call, thing, None, state=None)
        for call in CALLS:
            self.assert_refused(BadCoder, {"part": "moves", "number": 1}, call, replaced(TINY, 3, ((8, 0), 0)), None)

    def test_too_many_states(self):
        for coder in (coder_with(4097), coder_with(2049, 2), coder_with(257, 16), GREATEST):
            for call in CALLS:
                self.assert_refused(TooGreat, {"most": 4096}, call, coder, None, state=None)
            self.assert_refused(TooGreat, {"most": 4096}, reached, coder, START)
            self.assert_refused(TooGreat, {"most": 4096}, row_to, coder, START, START)
            self.assert_refused(TooGreat, {"most": 4096}, seam, coder, START, (0,))

    def test_no_state(self):
        for thing in no_states(SMALL):
            for call in CALLS:
                self.assert_refused(OutOfPlace, {}, call, SMALL, thing, state=None)
            self.assert_refused(OutOfPlace, {}, row_to, SMALL, START, thing)
            self.assert_refused(OutOfPlace, {}, seam, SMALL, START, (), state=thing)
            self.assert_refused(OutOfPlace, {}, seam, SMALL, START, (0, 1), state=thing)

    def test_no_row(self):
        for thing in NO_TUPLES:
            self.assert_refused(BadRow, {"row": 0, "word": 0}, seam, SMALL, START, thing, state=None)
        for thing in (-1, 4, None, True, "0", HUGE, (0,)):
            self.assert_refused(BadRow, {"row": 1, "word": 2}, seam, SMALL, START, (0, thing), state=None)
        self.assert_refused(BadRow, {"row": 1, "word": 2001}, seam, SMALL, START, (0,) * 2001, state=None)
        self.assertEqual(seam(SMALL, START, (0,) * 2000), ())


if __name__ == "__main__":
    unittest.main()
