"""Papers of two states, right and wrong: [1], [7]."""

import unittest
from random import Random

from stepsound.errors import BadPaper
from stepsound.together import check_together, together
from tests.search import Search, few_coders, spoiled, verdict_together
from tests.things import DROPS, HUGE, LEAST, NO_PAIRS, NO_PARTS, NO_TUPLES, Refusals, SMALL, STILL, TINY
from tests.things import coder_with, no_states, replaced, states

LOW, HIGH = (0, 0), (3, 0)
RANKS = ((((0, 0), (3, 0)), 3), (((1, 0), (3, 0)), 2), (((2, 0), (3, 0)), 1))
# Every couple of DROPS.
ALL_RANKS = (
    (((0, 0), (1, 0)), 3), (((0, 0), (2, 0)), 3), RANKS[0], (((1, 0), (2, 0)), 2), RANKS[1], RANKS[2],
)
COUPLES = (((-1, 0), (0, 0)), ((-1, 0), (0, 1)), ((-1, 1), (1, 1)))
NO_CODES = (-1, 2, 16, HUGE, None, True, False, "0", [0], (0,), 0.0)


class PaperTest(Refusals, unittest.TestCase):
    def assert_fault(self, part, number, paper, coder=DROPS, one=LOW, other=HIGH):
        fields = {"part": part, "number": number}
        self.assert_refused(BadPaper, fields, check_together, coder, one, other, paper)
        self.assert_refused(BadPaper, fields, check_together, coder=coder, one=other, other=one, paper=paper)

    def assert_taken(self, paper, coder=DROPS, one=LOW, other=HIGH):
        for states_in_order in ((one, other), (other, one)):
            self.assertEqual(check_together(coder, *states_in_order, paper), paper[0])


class FormTest(PaperTest):
    def test_no_tuple(self):
        for thing in NO_TUPLES:
            self.assert_fault("form", None, thing)
        self.assert_fault("form", None, ["always", RANKS, (0, 0)])

    def test_no_word(self):
        for word in NO_PARTS:
            if not (type(word) is str and word == "always"):
                for many in range(4):
                    self.assert_fault("form", None, (word,) + ((),) * many)
        for word in ("", "Always", "always ", "heals", "fails", "row", b"always"):
            self.assert_fault("form", None, (word, RANKS, (0, 0)))
        self.assert_fault("form", None, ())

    def test_too_few_and_too_many_things(self):
        for word, size in (("always", 3), ("sometimes", 4), ("never", 2)):
            for many in range(7):
                if many + 1 != size:
                    self.assert_fault("form", None, (word,) + ((),) * many)


class AlwaysTest(PaperTest):
    def assert_ranks(self, number, ranks, **named):
        """Wrong ranks are told ahead of a wrong row."""
        for row in ((0, 0), (), None, (9,)):
            self.assert_fault("ranks", number, ("always", ranks, row), **named)

    def test_taken(self):
        self.assert_taken(("always", RANKS, (0, 0)))
        self.assert_taken(("always", RANKS[2:], ()), one=(2, 0))
        self.assert_taken(("always", RANKS[1:], (0,)), one=(1, 0))

    def test_more_couples_than_are_told(self):
        self.assert_taken(("always", ALL_RANKS, (0, 0)))
        self.assert_taken(("always", ALL_RANKS, ()), one=(2, 0))
        self.assert_taken(("always", RANKS, ()), one=(2, 0))

    def test_ranks_greater_than_need_be(self):
        for rank in (4, 5, HUGE):
            self.assert_taken(("always", ((((0, 0), (1, 0)), rank),) + ALL_RANKS[1:], (0, 0)))
            self.assert_taken(("always", replaced(RANKS, 0, (RANKS[0][0], rank)), (0,)), one=(1, 0))

    def test_greater_ranks_of_couples_that_are_told(self):
        # At place 1 all steps are great, so that the couples there need not be brought together first.
        coder = (0, 3, (8, 32), ((1, 0), (1, 1)), 0)
        word, ranks, row = together(coder, LOW, HIGH)
        self.assertEqual(ranks, (RANKS[0], RANKS[1], (((1, 1), (3, 1)), 1), RANKS[2], (((2, 1), (3, 1)), 1)))
        self.assert_taken((word, replaced(ranks, 2, (((1, 1), (3, 1)), 2)), row), coder=coder)
        self.assert_fault("ranks", 0, (word, replaced(ranks, 2, (((1, 1), (3, 1)), 3)), row), coder=coder)
        self.assert_fault("ranks", 1, (word, replaced(ranks, 4, (((2, 1), (3, 1)), 2)), row), coder=coder)

    def test_the_rank_of_the_states_is_exact(self):
        for rank in (4, 5, HUGE):
            for row in ((0, 0), (0, 0, 0), (0,) * 4):
                self.assert_fault("row", None, ("always", replaced(RANKS, 0, (RANKS[0][0], rank)), row))

    def test_no_tuple(self):
        for thing in NO_TUPLES:
            self.assert_ranks(None, thing)
            self.assert_ranks(None, thing, other=LOW)
        self.assert_ranks(None, list(RANKS))

    def test_equal_states(self):
        for state in states(DROPS):
            self.assert_taken(("always", (), ()), one=state, other=state)
            for ranks in (RANKS, RANKS[2:], (None,), ((),), NO_PARTS, (HUGE,) * 3):
                self.assert_ranks(0, ranks, one=state, other=state)
            for row in NO_PARTS + ((1,), [], (9,), (0,) * 3000):
                if not (type(row) is tuple and row == ()):
                    self.assert_fault("row", None, ("always", (), row), one=state, other=state)

    def test_each_thing(self):
        couple, rank = RANKS[1]
        wrong = NO_PAIRS + (couple, couple + (rank,), [couple, rank], ((couple,), rank))
        wrong += tuple((thing, rank) for thing in NO_PAIRS + tuple(couple))
        wrong += tuple((couple, thing) for thing in NO_PARTS if not (type(thing) is int and thing > 0))
        wrong += tuple(((thing, HIGH), rank) for thing in no_states(DROPS))
        wrong += tuple(((LOW, thing), rank) for thing in no_states(DROPS))
        wrong += ((couple[::-1], rank), ((couple[0], couple[0]), rank), (list(couple), rank), (couple, 0))
        for thing in wrong:
            for index in range(3):
                self.assert_ranks(index, replaced(RANKS, index, thing))
            self.assert_ranks(3, RANKS + (thing,))

    def test_the_order(self):
        self.assert_ranks(1, RANKS[:1] + RANKS)
        self.assert_ranks(2, (RANKS[1], RANKS[2], RANKS[0]))
        self.assert_ranks(1, RANKS[::-1])
        self.assert_ranks(3, RANKS + RANKS[2:])
        self.assert_ranks(3, RANKS + ((RANKS[2][0], 2),))

    def test_each_follower(self):
        # The last thing in each is the index of the first one whose follower is not listed with a lesser rank.
        low, mid, top = RANKS
        for ranks, index in (
            ((low, mid), 0), ((low, top), 0), ((mid,), 0), ((low,), 0),
            ((low, (mid[0], 3), top), 0), ((low, (mid[0], 4), top), 0),
            ((low, (mid[0], 1), top), 1), (((low[0], 1), mid, top), 0), (((low[0], 2), mid, top), 0),
            ((low, mid, (top[0], 2)), 1), ((low, mid, (top[0], HUGE)), 0), (((low[0], HUGE), mid, (top[0], 2)), 1),
            (ALL_RANKS[:3] + ALL_RANKS[4:], 0), (ALL_RANKS[1:], None), (ALL_RANKS[2:4] + ALL_RANKS[5:], 0),
        ):
            if index is None:
                self.assert_taken(("always", ranks, (0, 0)))
            else:
                self.assert_ranks(index, ranks)

    def test_each_thing_ahead_of_all_followers(self):
        low, mid, top = RANKS
        self.assert_ranks(2, ((low[0], 1), mid, None))
        self.assert_ranks(1, (low, top, mid)[:1] + ((top[0], 0),))
        self.assert_ranks(2, (low, top, mid))

    def test_the_states_are_not_listed(self):
        self.assert_ranks(0, ())
        self.assert_ranks(2, RANKS[1:])
        self.assert_ranks(1, RANKS[2:])
        self.assert_ranks(3, RANKS, one=(1, 0), other=(2, 0))
        self.assert_ranks(0, (), coder=TINY, one=(-1, 0), other=(1, 0))

    def test_no_row(self):
        for row in NO_TUPLES + ([0, 0], "00", (0,), (), (0, 0, 0), (1, 0), (0, 1), (1, 1), (0,) * 3000):
            self.assert_fault("row", None, ("always", RANKS, row))
        for code in NO_CODES:
            self.assert_fault("row", None, ("always", RANKS, (0, code)))
            self.assert_fault("row", None, ("always", RANKS, (code, 0)))
            self.assert_fault("row", None, ("always", RANKS[2:], (code,)), one=(2, 0))

    def test_a_row_that_is_as_long_as_told_but_brings_together(self):
        self.assert_fault("row", None, ("always", RANKS[1:], (1,)), one=(1, 0))
        self.assert_fault("row", None, ("always", RANKS, (0, 1)))


class SometimesTest(PaperTest):
    """TINY: the row (0,) brings (0, 0) and (1, 0) together, the ring (1, 0) keeps them apart."""

    def assert_fault(self, part, number, paper, coder=TINY, one=(0, 0), other=(1, 0)):
        PaperTest.assert_fault(self, part, number, paper, coder, one, other)

    def assert_taken(self, paper, coder=TINY, one=(0, 0), other=(1, 0)):
        PaperTest.assert_taken(self, paper, coder, one, other)

    def test_taken(self):
        for lead, ring in (((), (1, 0)), ((1,), (0, 1)), ((1, 0), (1, 0)), ((1, 0) * 2000, (1, 0) * 3000)):
            self.assert_taken(("sometimes", (0,), lead, ring))

    def test_rows_that_are_not_the_first(self):
        for row in ((0, 0), (0, 1), (1, 1), (1, 0, 0), (1, 0) * 2000 + (0,), (0,) * 5000):
            self.assert_taken(("sometimes", row, (), (1, 0)))

    def test_no_row(self):
        for lead, ring in (((), (1, 0)), (None, ()), ((9,), ())):
            for row in NO_TUPLES + ([0], (), (1,), (1, 0), (1, 0) * 2000):
                self.assert_fault("row", None, ("sometimes", row, lead, ring))
            for code in NO_CODES:
                self.assert_fault("row", None, ("sometimes", (code,), lead, ring))
                self.assert_fault("row", None, ("sometimes", (0, code), lead, ring))

    def test_no_lead(self):
        for lead in NO_TUPLES + ([], [1], (0,), (1, 1), (0, 0)):
            self.assert_fault("ring", None, ("sometimes", (0,), lead, (1, 0)))
        for code in NO_CODES:
            self.assert_fault("ring", None, ("sometimes", (0,), (code,), (0, 1)))
            self.assert_fault("ring", None, ("sometimes", (0,), (1, 0, code), (1, 0)))

    def test_no_ring(self):
        for ring in NO_TUPLES + ([1, 0], (), (1,), (0,), (0, 1), (1, 1), (1, 0, 1), (1, 0, 0)):
            self.assert_fault("ring", None, ("sometimes", (0,), (), ring))
        for code in NO_CODES:
            self.assert_fault("ring", None, ("sometimes", (0,), (), (code,)))
            self.assert_fault("ring", None, ("sometimes", (0,), (), (1, 0, code)))
        # Another couple, that stays apart, too.
        self.assert_fault("ring", None, ("sometimes", (0, 0), (), (0,)), one=(-1, 0))

    def test_a_ring_that_leaves_equal_states_equal(self):
        self.assert_fault("ring", None, ("sometimes", (0,), (0,), (0,)))
        self.assert_fault("ring", None, ("sometimes", (0,), (0,), (1, 0)))

    def test_equal_states(self):
        for row in ((), (0,), (1, 0, 1)):
            self.assert_fault("ring", None, ("sometimes", row, (), (1, 0)), one=(1, 0))
        self.assert_fault("row", None, ("sometimes", None, (), (1, 0)), one=(1, 0))

    def test_states_that_never_or_always_come_together(self):
        self.assert_fault("row", None, ("sometimes", (0,), (), (0,)), coder=STILL)
        self.assert_fault("ring", None, ("sometimes", (1, 1, 1), (), (1,)), coder=DROPS)


class NeverTest(PaperTest):
    """STILL: each couple stays as it is."""

    def assert_couples(self, number, couples, one=(-1, 0), other=(0, 1), coder=STILL):
        self.assert_fault("couples", number, ("never", couples), coder, one, other)

    def test_taken(self):
        for couples in (COUPLES[1:2], COUPLES, COUPLES[:2], COUPLES[1:], tuple(Search(STILL).couples)):
            self.assert_taken(("never", couples), STILL, (-1, 0), (0, 1))

    def test_no_tuple(self):
        for thing in NO_TUPLES + (list(COUPLES),):
            self.assert_couples(None, thing)
            self.assert_couples(None, thing, other=(-1, 0))

    def test_each_thing(self):
        wrong = NO_PAIRS + (COUPLES[0][::-1], COUPLES[0][:1] * 2, list(COUPLES[0]), (COUPLES[0], 1), COUPLES[0] + (1,))
        wrong += tuple((thing, (1, 1)) for thing in no_states(STILL))
        wrong += tuple(((-1, 0), thing) for thing in no_states(STILL))
        for thing in wrong:
            for index in range(3):
                self.assert_couples(index, replaced(COUPLES, index, thing))
            self.assert_couples(3, COUPLES + (thing,))

    def test_the_order(self):
        self.assert_couples(1, COUPLES[:1] + COUPLES)
        self.assert_couples(1, COUPLES[::-1])
        self.assert_couples(3, COUPLES + COUPLES[1:2])

    def test_each_follower(self):
        # Level 0 and level 1 at place 0 are led to place 1 by the code 0, back by the code 1.
        coder = (0, 1, (8, 8), ((0, 1), (0, -1)), 0)
        one, other = ((0, 0), (1, 0)), ((0, 1), (1, 1))
        self.assert_taken(("never", (one, other)), coder, *one)
        self.assert_couples(0, (one,), *one, coder=coder)
        self.assert_couples(0, (other,), *one, coder=coder)
        # By this couple all come together, though what it is led to is listed.
        self.assert_couples(1, (one, ((0, 0), (0, 1)), other), *one, coder=coder)
        self.assert_couples(0, (RANKS[2][0],), (2, 0), (3, 0), coder=DROPS)
        # The couple of the levels 1 and 2 is the first one of which a code makes equal states.
        self.assert_couples(3, tuple(couple for couple, _ in ALL_RANKS), *RANKS[0][0], coder=DROPS)

    def test_each_thing_ahead_of_all_followers(self):
        coder = (0, 1, (8, 8), ((0, 1), (0, -1)), 0)
        self.assert_couples(1, (((0, 0), (1, 0)), None), (0, 0), (1, 0), coder=coder)
        self.assert_couples(2, (((0, 0), (0, 1)), ((0, 0), (1, 0)), ()), (0, 0), (1, 0), coder=coder)

    def test_the_states_are_not_listed(self):
        self.assert_couples(0, ())
        self.assert_couples(2, (COUPLES[0], COUPLES[2]))
        self.assert_couples(3, COUPLES, (0, 0), (1, 1))

    def test_equal_states_are_not_listed(self):
        for state in states(STILL):
            self.assert_couples(0, (), state, state)
            self.assert_couples(3, COUPLES, state, state)
            self.assert_couples(1, (COUPLES[0], None), state, state)


class SpoiledTest(PaperTest):
    def assert_verdict(self, search, one, other, paper):
        verdict = verdict_together(search, one, other, paper)
        if type(verdict) is str:
            self.assertEqual(check_together(search.coder, one, other, paper), verdict)
        else:
            self.assert_refused(BadPaper, dict(zip(("part", "number"), verdict)),
                                check_together, search.coder, one, other, paper)
        return verdict

    def test_papers_of_other_states(self):
        for search in [Search(coder) for coder in few_coders(30)]:
            rng = Random(3)
            for one, other in search.couples[:20]:
                paper = together(search.coder, one, other)
                for _ in range(5):
                    self.assert_verdict(search, rng.choice(search.states), rng.choice(search.states), paper)

    def test_papers_spoiled_at_any_depth(self):
        rng = Random(6)
        verdicts = {}
        for search in [Search(coder) for coder in list(few_coders(40)) + [SMALL, DROPS, STILL, STILL, LEAST, TINY]]:
            for _ in range(70):
                one, other = rng.choice(search.states), rng.choice(search.states)
                paper = together(search.coder, one, other)
                for _ in range(rng.choice((1, 1, 2))):
                    paper = spoiled(rng, paper, NO_PARTS)
                verdict = self.assert_verdict(search, one, other, paper)
                verdicts[verdict if type(verdict) is str else verdict[0]] = True
        told = {"always", "sometimes", "never", "form", "ranks", "couples", "row", "ring"}
        self.assertEqual(set(verdicts), told)

    def test_whole_coders(self):
        """All couples that have ranks, and all that never come together, in one paper."""
        for search in [Search(coder) for coder in few_coders(60)]:
            ranks = tuple(sorted(search.ranks.items()))
            never = tuple(couple for couple in search.couples if couple not in search.near)
            for one, other in search.couples:
                if (one, other) in search.ranks:
                    row = together(search.coder, one, other)[2]
                    self.assert_taken(("always", ranks, row), search.coder, one, other)
                elif (one, other) in never:
                    self.assert_taken(("never", never), search.coder, one, other)

    def test_the_most_states(self):
        for coder in (coder_with(256), coder_with(16, 16, 3)):
            one, other = (coder[0], 0), (coder[1], 0)
            self.assert_fault("form", None, None, coder, one, other)
            self.assert_fault("ranks", 0, ("always", (None,), ()), coder, one, other)
            self.assert_fault("couples", 1, ("never", ((one, other), None)), coder, one, other)


if __name__ == "__main__":
    unittest.main()
