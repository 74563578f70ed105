"""States that come together: [1], [7], [8], [23]."""

import unittest
from itertools import combinations, product

from stepsound.errors import BadCoder, OutOfPlace, TooGreat
from stepsound.maps import row_map
from stepsound.together import check_together, joining_row, merging_row, together
from tests.search import Search, few_coders, told_couple, verdict_together
from tests.things import CLIMB, DROPS, FADING, GREATEST, LEAST, NO_CODERS, Refusals, SMALL, STILL, TINY, WRONG_NUMBERS
from tests.things import coder_with, no_states, replaced, states, told_row

# TINY with the step 9 in the place of 1.
WIDE = replaced(TINY, 2, (9,))
CALLS = (together, joining_row, lambda coder, one, other: check_together(coder, one, other, None))
# Every row of twelve codes is looked at, at most.
ROWS_OF_2 = [row for many in range(13) for row in product(range(2), repeat=many)]


class TogetherTest(unittest.TestCase):
    def assert_told(self, search, one, other):
        """The paper of two states is exactly as the search tells, but for what is free."""
        coder, couple = search.coder, told_couple(one, other)
        paper = together(coder, one, other)
        word = search.word(couple)
        self.assertIs(paper.__class__, tuple)
        self.assertEqual((paper[0], verdict_together(search, one, other, paper)), (word, word))
        self.assertEqual(check_together(coder, one, other, paper), word)
        reached = [] if couple is None else search.reached([couple])
        if word == "always":
            self.assertEqual(paper[1], tuple((each, search.ranks[each]) for each in reached))
        elif word == "never":
            self.assertEqual(paper[1], tuple(reached))
        else:
            self.assertEqual(paper[1], search.first_row(couple))
        return word

    def test_the_examples(self):
        told = together(TINY, (0, 0), (1, 0))
        self.assertEqual(told[:2], ("sometimes", (0,)))
        self.assertEqual(check_together(TINY, (0, 0), (1, 0), ("sometimes", (0,), (), (1, 0))), "sometimes")
        self.assertEqual(together(WIDE, (-1, 0), (1, 0)), ("always", ((((-1, 0), (1, 0)), 1),), ()))
        still = replaced(TINY, 3, ((0, 0), (0, 0)))
        self.assertEqual(together(still, (-1, 0), (1, 0)), ("never", (((-1, 0), (1, 0)),)))

    def test_each_couple_and_rank(self):
        drops = ((((0, 0), (3, 0)), 3), (((1, 0), (3, 0)), 2), (((2, 0), (3, 0)), 1))
        self.assertEqual(together(DROPS, (3, 0), (0, 0)), ("always", drops, (0, 0)))
        self.assertEqual(together(DROPS, (1, 0), (3, 0))[1], drops[1:])
        self.assertEqual(together(DROPS, (2, 0), (3, 0)), ("always", drops[2:], ()))
        # The couple goes round by two places; no row brings it together.
        turning = (0, 1, (8, 8), ((0, 15), (0, -15)), 0)
        self.assertEqual(together(turning, (0, 0), (1, 1)), ("never", (
            ((0, 0), (1, 0)), ((0, 0), (1, 1)), ((0, 1), (1, 1)))))

    def test_equal_states(self):
        for coder in (SMALL, TINY, CLIMB, FADING, LEAST, STILL):
            for state in states(coder):
                self.assertEqual(together(coder, state, state), ("always", (), ()))
                self.assertEqual(joining_row(coder, state, state), ())

    def test_both_orders_of_the_states(self):
        for search in [Search(coder) for coder in few_coders(30)]:
            for one, other in search.couples:
                told = together(coder=search.coder, one=one, other=other)
                self.assertEqual(together(search.coder, other, one), told)
                self.assertEqual(check_together(coder=search.coder, one=other, other=one, paper=told), told[0])

    def test_every_couple_of_few_states(self):
        words = {"always": 0, "sometimes": 0, "never": 0}
        for coder in list(few_coders(150)) + [TINY, WIDE, DROPS, STILL, LEAST, CLIMB]:
            search = Search(coder)
            for one, other in search.couples + [(one, one) for one in search.states[:1]]:
                words[self.assert_told(search, one, other)] += 1
        self.assertTrue(min(words.values()) > 150, words)

    def test_every_couple_of_the_example(self):
        search = Search(SMALL)
        for one, other in search.couples[::7]:
            self.assert_told(search, one, other)

    def test_states_at_both_limits(self):
        for coder in (SMALL, FADING, CLIMB, coder_with(40, 2), coder_with(40, 2, 2)):
            search = Search(coder)
            for places in product((0, len(coder[2]) - 1), repeat=2):
                self.assert_told(search, (coder[0], places[0]), (coder[1], places[1]))

    def test_neighbours(self):
        """[23]: the rank of two levels is the greatest one of the neighbours between them."""
        for coder in list(few_coders(60)) + [SMALL, DROPS]:
            for place in range(len(coder[2])):
                levels = range(coder[0], coder[1])
                near = [self.rank(coder, (level, place), (level + 1, place)) for level in levels]
                for one, other in combinations(range(len(near) + 1), 2):
                    told = self.rank(coder, (coder[0] + one, place), (coder[0] + other, place))
                    self.assertEqual(told, None if None in near[one:other] else max(near[one:other]))

    def rank(self, coder, one, other):
        paper = together(coder, one, other)
        return dict(paper[1])[(one, other)] if paper[0] == "always" else None

    def test_the_most_states(self):
        for coder in (coder_with(256), coder_with(16, 16), coder_with(256, fade=2), coder_with(128, 2, 9)):
            one, other = (coder[0], 0), (coder[1], len(coder[2]) - 1)
            paper = together(coder, one, other)
            self.assertEqual(check_together(coder, one, other, paper), paper[0])
            row = joining_row(coder, one, other)
            self.assertEqual(told_row(coder, row, one)[1], told_row(coder, row, other)[1])
            self.assertEqual(row, paper[1] if paper[0] == "sometimes" else row)

    def test_a_long_way_together(self):
        # One code of two goes up by 1, so 255 codes are needed at most.
        coder = (-128, 127, (8,), ((1, 0), (2, 0)), 0)
        paper = together(coder, (-128, 0), (127, 0))
        self.assertEqual(len(paper[1]), 255)
        self.assertEqual(paper[1][0], (((-128, 0), (127, 0)), 255))
        self.assertEqual(paper[2], (0,) * 254)
        self.assertEqual(joining_row(coder, (-128, 0), (127, 0)), (0,) + (1,) * 127)

    def test_nothing_is_kept(self):
        first = [together(SMALL, (0, 0), (1, 1)), joining_row(SMALL, (0, 0), (1, 1)), merging_row(SMALL, 0)]
        with self.assertRaises(OutOfPlace):
            together(SMALL, (0, 0), (9, 9))
        together(TINY, (0, 0), (1, 0))
        self.assertEqual([together(SMALL, (0, 0), (1, 1)), joining_row(SMALL, (0, 0), (1, 1)), merging_row(SMALL, 0)],
                         first)


class JoiningTest(unittest.TestCase):
    def test_all_rows(self):
        """Against all rows of at most twelve codes; those who come together do so within them."""
        for coder in [coder for coder in few_coders(60) if len(coder[3]) == 2] + [TINY, WIDE, DROPS, STILL]:
            search = Search(coder)
            ends = {state: [told_row(coder, row, state)[1] for row in ROWS_OF_2[:255]] for state in search.states}
            for one, other in search.couples:
                equal = [at for at, (a, b) in enumerate(zip(ends[one], ends[other])) if a == b]
                row = joining_row(coder, one, other)
                if equal:
                    self.assertEqual(row, ROWS_OF_2[equal[0]])
                else:
                    self.assertTrue(row is None or len(row) > 7)

    def test_the_first_of_the_shortest_rows(self):
        nones = 0
        for coder in list(few_coders(150)) + [TINY, WIDE, DROPS, STILL, SMALL]:
            search = Search(coder)
            for one, other in search.couples:
                row = joining_row(coder, other, one)
                self.assertEqual(row, search.first_row((one, other)))
                nones += row is None
        self.assertTrue(nones > 150)

    def test_the_examples(self):
        self.assertEqual(joining_row(TINY, (0, 0), (1, 0)), (0,))
        self.assertEqual(joining_row(coder=TINY, one=(-1, 0), other=(0, 0)), (1,))
        self.assertEqual(joining_row(TINY, (-1, 0), (1, 0)), (0, 0))
        self.assertIsNone(joining_row(STILL, (0, 0), (0, 1)))

    def test_of_two_shortest_rows_the_first(self):
        # Both codes bring the states together.
        self.assertEqual(joining_row(WIDE, (-1, 0), (1, 0)), (0,))
        self.assertEqual(joining_row(replaced(TINY, 3, ((0, 0), (-8, 0), (8, 0))), (-1, 0), (1, 0)), (1, 1))


class MergingTest(unittest.TestCase):
    def test_all_levels_become_one(self):
        for coder in list(few_coders(150)) + [TINY, WIDE, DROPS, STILL, SMALL, LEAST, CLIMB]:
            search = Search(coder)
            for place in range(len(coder[2])):
                row = merging_row(coder, place)
                self.assertEqual(row, search.first_row(told_couple((coder[0], place), (coder[1], place))))
                if row is not None:
                    self.assertEqual(len(set(row_map(coder, row, place)[0])), 1)

    def test_all_rows(self):
        """Against the maps of all rows, in order, of at most seven codes."""
        for coder in [coder for coder in few_coders(80) if len(coder[3]) == 2] + [TINY, WIDE, DROPS, STILL]:
            for place in range(len(coder[2])):
                found = [row for row in ROWS_OF_2[:255] if len(set(row_map(coder, row, place)[0])) == 1]
                row = merging_row(coder, place)
                if found:
                    self.assertEqual(row, found[0])
                else:
                    self.assertTrue(row is None or len(row) > 7)

    def test_the_examples(self):
        self.assertEqual(merging_row(TINY, 0), (0, 0))
        self.assertEqual(merging_row(WIDE, 0), (0,))
        self.assertEqual(merging_row(coder=DROPS, place=0), (0, 1))
        self.assertIsNone(merging_row(STILL, 1))

    def test_one_level(self):
        coder = (0, 0, (1, 2, 3), ((1, 1), (0, -1)), 0)
        for place in range(3):
            self.assertEqual(merging_row(coder, place), ())

    def test_the_most_states(self):
        for coder in (coder_with(256), coder_with(16, 16), coder_with(128, 2, 9)):
            row = merging_row(coder, len(coder[2]) - 1)
            self.assertEqual(len(set(row_map(coder, row, len(coder[2]) - 1)[0])), 1)


class RefusedTest(Refusals, unittest.TestCase):
    def test_no_coder(self):
        for thing in NO_CODERS:
            for call in CALLS:
                self.assert_refused(BadCoder, {}, call, thing, None, None)
            self.assert_refused(BadCoder, {}, merging_row, thing, None)
        for call in CALLS:
            self.assert_refused(BadCoder, {"part": "fade", "number": None}, call, replaced(GREATEST, 4, 1), (0, 0), 0)

    def test_too_many_states(self):
        for coder in (coder_with(257), coder_with(129, 2), coder_with(17, 16), coder_with(4097, 1, 2), GREATEST):
            for call in CALLS:
                self.assert_refused(TooGreat, {"most": 256}, call, coder, (0, 0), (0, 0))
                self.assert_refused(TooGreat, {"most": 256}, call, coder, None, None)
            self.assert_refused(TooGreat, {"most": 256}, merging_row, coder, 0)
            self.assert_refused(TooGreat, {"most": 256}, merging_row, coder, None)

    def test_no_state(self):
        for call in CALLS:
            for thing in no_states(SMALL):
                self.assert_refused(OutOfPlace, {}, call, SMALL, thing, (0, 0))
                self.assert_refused(OutOfPlace, {}, call, SMALL, (0, 0), thing)
                self.assert_refused(OutOfPlace, {}, call, SMALL, thing, thing)

    def test_no_place(self):
        for thing in WRONG_NUMBERS + (-1, 3, 16):
            self.assert_refused(OutOfPlace, {}, merging_row, SMALL, thing)
        self.assert_refused(OutOfPlace, {}, merging_row, coder=SMALL, place=None)


if __name__ == "__main__":
    unittest.main()
