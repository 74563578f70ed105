"""The maps of rows: [1], [6], [23]."""

import unittest
from itertools import product
from random import Random

from stepsound.errors import BadCoder, BadRow, OutOfPlace, TooGreat
from stepsound.maps import limits_of, row_map
from tests.things import CLIMB, FADING, GREATEST, LEAST, NO_CODERS, NO_TUPLES, Refusals, SMALL, TINY, WRONG_NUMBERS
from tests.things import coder_with, random_coders, random_row, replaced, told_row, told_step

BOTH = (row_map, limits_of)
UNFADED = GREATEST[:4] + (0,)


def told_map(coder, row, place):
    behind = [told_row(coder, row, (level, place))[1] for level in range(coder[0], coder[1] + 1)]
    return tuple(level for level, _ in behind), behind[0][1]


def some_maps(coders):
    """Coders, each with rows and places."""
    rng = Random(4)
    for coder in coders:
        for many in (0, 1, 2, 5, 11):
            yield coder, random_row(rng, coder, many), rng.randrange(len(coder[2]))


class MapTest(unittest.TestCase):
    def test_the_example(self):
        told = (-2, -1, 0, 1, 2, 3, 4, 5, 6) + (7,) * 7
        self.assertEqual(row_map(SMALL, (2, 2), 0), (told, 2))
        self.assertEqual(limits_of(SMALL, (2, 2), 0), (6, -2, 7, 2))

    def test_the_empty_row(self):
        for coder in (SMALL, TINY, CLIMB, FADING, LEAST):
            for place in range(len(coder[2])):
                told = tuple(range(coder[0], coder[1] + 1))
                self.assertEqual(row_map(coder, (), place), (told, place))
                if coder[4] == 0:
                    self.assertEqual(limits_of(coder, (), place), (0, coder[0], coder[1], place))
        self.assertEqual(limits_of(UNFADED, (), 15), (0, -32768, 32767, 15))

    def test_every_short_row(self):
        for coder in (SMALL, TINY, CLIMB, FADING):
            for many in range(4):
                for row in product(range(len(coder[3])), repeat=many):
                    for place in range(len(coder[2])):
                        self.assertEqual(row_map(coder, row, place), told_map(coder, row, place))

    def test_random_rows(self):
        for coder, row, place in some_maps(random_coders(80)):
            found = row_map(coder=coder, row=row, place=place)
            self.assertEqual(found, told_map(coder, row, place))
            self.assertEqual((found.__class__, found[0].__class__), (tuple, tuple))

    def test_each_level_as_great_or_greater_by_1(self):
        for coder, row, place in some_maps(random_coders(150)):
            levels = row_map(coder, row, place)[0]
            self.assertEqual(len(levels), coder[1] - coder[0] + 1)
            for one, other in zip(levels, levels[1:]):
                self.assertIn(other - one, (0, 1))

    def test_places_in_order(self):
        for coder, row, _ in some_maps(random_coders(60)):
            behind = [row_map(coder, row, place)[1] for place in range(len(coder[2]))]
            self.assertEqual(behind, sorted(behind))

    def test_two_rows_one_behind_the_other(self):
        for coder, row, place in some_maps(random_coders(60)):
            first, between = row_map(coder, row, place)
            second, last = row_map(coder, row[::-1], between)
            told = tuple(second[level - coder[0]] for level in first)
            self.assertEqual(row_map(coder, row + row[::-1], place), (told, last))

    def test_levels_between_levels_that_come_together(self):
        """[23]: a row that brings two levels together brings together all between them."""
        for coder, row, place in some_maps(random_coders(60)):
            levels = row_map(coder, row, place)[0]
            for level in levels:
                first, many = levels.index(level), levels.count(level)
                self.assertEqual(levels[first:first + many], (level,) * many)

    def test_long_rows_and_the_most_states(self):
        rng = Random(9)
        for coder in (coder_with(4096), coder_with(4096, fade=99), coder_with(1024, 4, 2), FADING, SMALL):
            row = random_row(rng, coder, 2000)
            levels, behind = row_map(coder, row, 0)
            self.assertEqual(len(levels), coder[1] - coder[0] + 1)
            for level in (coder[0], 0, 1, coder[1]):
                self.assertEqual((levels[level - coder[0]], behind), told_row(coder, row, (level, 0))[1])


class LimitsTest(unittest.TestCase):
    def assert_limits(self, coder, row, place):
        """The map that three integers tell is that of row_map, and the first of them is the sum of the changes."""
        total, least, most, behind = limits_of(coder, row, place)
        told = tuple(min(most, max(least, level + total)) for level in range(coder[0], coder[1] + 1))
        self.assertEqual((told, behind), row_map(coder, row, place))
        self.assertEqual((least, most), (told[0], told[-1]))
        changes, state = 0, (0, place)
        for code in row:
            change, state = told_step(coder, state, code)
            changes += change
        self.assertEqual((total, behind), (changes, state[1]))

    def test_every_place(self):
        rng = Random(10)
        for coder in [SMALL, TINY, CLIMB, LEAST] + [coder[:4] + (0,) for coder in random_coders(80)]:
            for place in range(len(coder[2])):
                for many in (1, 2, 6):
                    coder_without = coder[:4] + (0,)
                    self.assert_limits(coder_without, random_row(rng, coder, many), place)

    def test_the_sum_beyond_the_limits(self):
        self.assertEqual(limits_of(TINY, (0,) * 9, 0), (9, 1, 1, 0))
        self.assertEqual(limits_of(TINY, (1,) * 9, 0), (-9, -1, -1, 0))
        self.assertEqual(limits_of(coder=TINY, row=(0, 0, 1, 1), place=0), (0, -1, -1, 0))
        self.assertEqual(limits_of(UNFADED, (0, 15), 3), (2 * 39996, 32767, 32767, 15))

    def test_coders_with_too_many_states_for_maps(self):
        coder = coder_with(4097, 16)
        self.assertEqual(limits_of(coder, (0, 1), 2), (0, -2048, 2047, 2))
        self.assertEqual(limits_of(UNFADED, (15,) * 2000, 0), (2000 * 39996, 32767, 32767, 15))


class RefusedTest(Refusals, unittest.TestCase):
    def test_no_coder(self):
        for call in BOTH:
            for thing in NO_CODERS:
                self.assert_refused(BadCoder, {}, call, thing, None, None)
            self.assert_refused(BadCoder, {"part": "fade", "number": None}, call, replaced(GREATEST, 4, 1), (), 0)

    def test_too_many_states(self):
        for coder in (coder_with(4097), coder_with(257, 16), coder_with(4097, 1, 2), GREATEST):
            self.assert_refused(TooGreat, {"most": 4096}, row_map, coder, (0,), 0)
            self.assert_refused(TooGreat, {"most": 4096}, row_map, coder, None, None)

    def test_a_fade(self):
        for coder in (FADING, GREATEST, coder_with(5, 2, 2), coder_with(5000, 1, 99)):
            self.assert_refused(OutOfPlace, {}, limits_of, coder, (0,), 0)
            for thing in NO_TUPLES + ((99,), (None,), (0,) * 2001):
                self.assert_refused(OutOfPlace, {}, limits_of, coder, thing, None)

    def test_no_row(self):
        for call in BOTH:
            for thing in NO_TUPLES:
                self.assert_refused(BadRow, {"row": 0, "word": 0}, call, SMALL, thing, None)
            for thing in WRONG_NUMBERS + (-1, 4):
                self.assert_refused(BadRow, {"row": 1, "word": 2}, call, SMALL, (0, thing, None), None)
            self.assert_refused(BadRow, {"row": 1, "word": 2001}, call, SMALL, (0,) * 2001, 0)

    def test_no_place(self):
        for call in BOTH:
            for thing in WRONG_NUMBERS + (-1, 3, 16):
                self.assert_refused(OutOfPlace, {}, call, SMALL, (0, 1), thing)
                self.assert_refused(OutOfPlace, {}, call, coder=SMALL, row=(), place=thing)


if __name__ == "__main__":
    unittest.main()
