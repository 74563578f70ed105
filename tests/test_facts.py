"""The facts of [23] about neighbours and about repeated rows without a fade."""

import unittest
from random import Random

from stepsound.maps import limits_of
from stepsound.repeats import last_of, settling
from stepsound.together import joining_row, merging_row, together
from tests.search import few_coders
from tests.things import CLIMB, DROPS, SMALL, STILL, TINY, random_coders, random_row, told_row


def rank_of(paper):
    """The least number of codes for which all rows bring the states of a paper together, None if there is none."""
    return len(paper[2]) + 1 if paper[0] == "always" else None


class NeighboursTest(unittest.TestCase):
    CODERS = list(few_coders(80)) + [SMALL, TINY, CLIMB, DROPS, STILL]

    def test_two_levels_and_the_neighbours_between_them(self):
        found = {}
        for coder in self.CODERS:
            for place in range(len(coder[2])):
                near = [rank_of(together(coder, (level, place), (level + 1, place)))
                        for level in range(coder[0], coder[1])]
                for one in range(len(near)):
                    for other in range(one + 1, len(near) + 1):
                        ranks = near[one:other]
                        told = None if None in ranks else max(ranks)
                        paper = together(coder, (coder[0] + one, place), (coder[0] + other, place))
                        self.assertEqual(rank_of(paper), told)
                        found[told] = True
        self.assertTrue(len(found) > 4)

    def test_the_levels_between(self):
        for coder in self.CODERS:
            low, high = coder[:2]
            for place in range(len(coder[2])):
                row = joining_row(coder, (low, place), (high, place))
                self.assertEqual(merging_row(coder, place), row)
                if row is not None:
                    lasts = {told_row(coder, row, (level, place))[1] for level in range(low, high + 1)}
                    self.assertEqual(len(lasts), 1)


class SettlingTest(unittest.TestCase):
    def test_where_a_repeated_row_settles(self):
        rng = Random(26)
        found = {}
        for coder in list(random_coders(150)) + list(few_coders(80)) + [SMALL, TINY, CLIMB]:
            if coder[4] == 0:
                state = rng.randint(coder[0], coder[1]), rng.randrange(len(coder[2]))
                row = random_row(rng, coder, rng.randint(1, 5))
                place = last_of(coder, row, len(coder[2]), state=state)[1]
                change, least, most, behind = limits_of(coder, row, place)
                self.assertEqual(behind, place)
                told = {1: most, -1: least}.get((change > 0) - (change < 0))
                found[told is None] = True
                if told is not None:
                    self.assertEqual(settling(coder, row, state=state)[1], (told, place))
        self.assertEqual(len(found), 2)


if __name__ == "__main__":
    unittest.main()
