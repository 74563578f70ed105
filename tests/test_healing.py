"""Kinds of damage that heal, and their papers: [1], [10], [23]."""

import unittest
from math import gcd
from random import Random

from stepsound.damage import check_healing, healing
from stepsound.errors import BadCoder, BadPaper, OutOfPlace, TooGreat
from stepsound.together import together
from tests.search import Search, few_coders, spoiled, verdict_healing
from tests.things import CLIMB, DROPS, FADING, GREATEST, HUGE, LEAST, NO_CODERS, NO_PAIRS, NO_PARTS, NO_TUPLES
from tests.things import Refusals, SMALL, STILL, TINY, coder_with, no_states, replaced

KINDS = ("lost", "twice", "other")
RANKS = ((((0, 0), (1, 0)), 3), (((0, 0), (2, 0)), 3), (((1, 0), (2, 0)), 2), (((1, 0), (3, 0)), 2),
         (((2, 0), (3, 0)), 1))
# In level 0 the first code of DROPS is lost: the hearer stays behind by 1.
WORST = ((0, 0), (0,), (0, 0))
NO_CODES = (-1, 2, 16, HUGE, None, True, False, "0", [0], (0,), 0.0)


class HealingTest(unittest.TestCase):
    def assert_told(self, search, kind):
        """The paper of a kind is exactly as the search tells, but for what is free."""
        paper = healing(search.coder, kind)
        left = search.all_left(kind)
        word = "heals" if all(couple in search.ranks for couple in left) else "fails"
        self.assertIs(paper.__class__, tuple)
        self.assertEqual((paper[0], verdict_healing(search, kind, paper)), (word, word))
        self.assertEqual(check_healing(search.coder, kind, paper), word)
        if word == "heals":
            self.assertEqual(paper[1], tuple((couple, search.ranks[couple]) for couple in search.reached(left)))
            self.assertEqual(paper[2] is None, not left)
        return word

    def test_small_coders(self):
        words = {"heals": 0, "fails": 0}
        for coder in list(few_coders(150)) + [TINY, DROPS, STILL, LEAST, CLIMB, SMALL, FADING]:
            search = Search(coder)
            for kind in KINDS:
                words[self.assert_told(search, kind)] += 1
        self.assertTrue(min(words.values()) > 100, words)

    def test_told_papers(self):
        self.assertEqual(healing(DROPS, "lost"), ("heals", RANKS, WORST))
        self.assertEqual(healing(coder=DROPS, kind="other")[1], (RANKS[2], RANKS[4]))
        self.assertEqual(healing(LEAST, "twice"), ("heals", (), None))
        self.assertEqual(healing(STILL, "lost"), ("heals", (), None))
        # Some row heals each damage of TINY, but another one never does.
        self.assertEqual([healing(TINY, kind)[0] for kind in KINDS], ["fails"] * 3)

    def test_no_damage_leaves_unequal_states(self):
        # Both codes are alike, so only a wrong number of them is heard.
        coder = (0, 3, (1,), ((8, 0), (8, 0)), 0)
        self.assertEqual(healing(coder, "other"), ("heals", (), None))
        self.assertEqual(check_healing(coder=coder, kind="other", paper=("heals", (), None)), "heals")
        self.assertEqual(healing(coder, "lost")[2][2], (0, 0))

    def test_two_changes(self):
        """[23]: it heals exactly if HIGH - LOW is at most A + B - G."""
        for up in range(1, 6):
            for down in range(1, 6):
                bound = up + down - gcd(up, down)
                for many in (0, bound - 1, bound, bound + 1, bound + 2):
                    for coder in self.coders_of_two(up, down, max(many, 0)):
                        word = "heals" if many <= bound else "fails"
                        self.assertEqual([healing(coder, kind)[0] for kind in KINDS], [word] * 3)

    def coders_of_two(self, up, down, many):
        """Coders with the changes UP and -DOWN, and MANY levels above the lowest one."""
        yield -(many // 2), many - many // 2, (8,), ((up, 0), (-down, 0)), 0
        yield -many, 0, (2, 2), ((-4 * down, 0), (4 * up, 0), (-4 * down, 0)), 0

    def test_the_most_states(self):
        for coder in (coder_with(256), coder_with(16, 16), coder_with(256, fade=2),
                      (-128, 127, (8,), ((1, 0), (2, 0)), 0)):
            for kind in KINDS:
                paper = healing(coder, kind)
                self.assertEqual(check_healing(coder, kind, paper), paper[0])
        paper = healing((-128, 127, (8,), ((1, 0), (1, 0)), 0), "lost")
        self.assertEqual((len(paper[1]), len(paper[2][2])), (255, 254))

    def test_nothing_is_kept(self):
        first = [healing(DROPS, kind) for kind in KINDS]
        for kind in KINDS:
            healing(SMALL, kind)
            with self.assertRaises(BadPaper):
                check_healing(DROPS, kind, None)
        self.assertEqual([healing(DROPS, kind) for kind in KINDS], first)


class PaperTest(Refusals, unittest.TestCase):
    def assert_fault(self, part, number, paper, coder=DROPS, kind="lost"):
        fields = {"part": part, "number": number}
        self.assert_refused(BadPaper, fields, check_healing, coder, kind, paper)
        self.assert_refused(BadPaper, fields, check_healing, coder=coder, kind=kind, paper=paper)

    def assert_taken(self, paper, coder=DROPS, kind="lost"):
        self.assertEqual(check_healing(coder, kind, paper), paper[0])


class FormTest(PaperTest):
    def test_no_tuple(self):
        for thing in NO_TUPLES:
            for kind in KINDS:
                self.assert_fault("form", None, thing, kind=kind)
        self.assert_fault("form", None, ["heals", RANKS, WORST])

    def test_no_word(self):
        for word in NO_PARTS + ("always", "Heals", "heals ", "", b"heals", "lost"):
            for many in range(6):
                self.assert_fault("form", None, (word,) + ((),) * many)
        self.assert_fault("form", None, ())

    def test_too_few_and_too_many_things(self):
        for word, size in (("heals", 3), ("fails", 5)):
            for many in range(8):
                if many + 1 != size:
                    self.assert_fault("form", None, (word,) + ((),) * many)
        self.assert_fault("form", None, ("heals", RANKS))
        self.assert_fault("form", None, ("heals", RANKS) + WORST)


class HealsTest(PaperTest):
    def assert_ranks(self, number, ranks, **named):
        """Wrong ranks are told ahead of a wrong WORST."""
        for worst in (WORST, None, (), (None, (), ()), HUGE):
            self.assert_fault("ranks", number, ("heals", ranks, worst), **named)

    def test_taken(self):
        self.assert_taken(("heals", RANKS, WORST))
        self.assert_taken(("heals", RANKS, ((0, 0), (1,), (0, 0))))
        self.assert_taken(("heals", (), None), STILL, "twice")

    def test_every_worst(self):
        """Each damage that leaves the greatest rank, with each row that it outlasts, is taken; no other one is."""
        taken = []
        for state in ((0, 0), (1, 0), (2, 0), (3, 0)):
            for codes in ((0,), (1,)):
                for row in ((), (0,), (1,), (0, 0), (0, 1), (1, 0), (1, 1), (0, 0, 0)):
                    paper = ("heals", RANKS, (state, codes, row))
                    try:
                        check_healing(DROPS, "lost", paper)
                        taken.append((state, codes, row))
                    except BadPaper as fault:
                        self.assertEqual((fault.part, fault.number), ("worst", None))
        self.assertEqual(taken, [WORST, ((0, 0), (1,), (0, 0))])

    def test_more_couples_than_are_told(self):
        # Level 0 and level 3 are left by no damage.
        ranks = RANKS[:2] + ((((0, 0), (3, 0)), 3),) + RANKS[2:]
        self.assert_taken(("heals", ranks, WORST))
        for rank in (4, HUGE):
            self.assert_taken(("heals", replaced(ranks, 2, (ranks[2][0], rank)), WORST))
        # Even where no damage leaves unequal states.
        coder = (0, 3, (1,), ((8, 0), (8, 0)), 0)
        self.assert_taken(("heals", ((((2, 0), (3, 0)), 1),), None), coder, "other")

    def test_ranks_greater_than_need_be(self):
        for rank in (4, 5, HUGE):
            for index in (0, 1):
                ranks = replaced(RANKS, index, (RANKS[index][0], rank))
                self.assert_fault("worst", None, ("heals", ranks, WORST))
                self.assert_fault("worst", None, ("heals", ranks, ((0, 0), (index,), (0, 0, 0))))
        # Only the levels 1, 2 and 2, 3 are left by damages of this kind.
        ranks = ((((0, 0), (3, 0)), 9), RANKS[2], RANKS[3], RANKS[4])
        self.assert_taken(("heals", ranks, ((0, 0), (1, 0), (0,))), kind="other")
        self.assert_taken(("heals", replaced(ranks, 2, (RANKS[3][0], 8)), ((0, 0), (0, 1), (0,))), kind="other")

    def test_no_tuple(self):
        for thing in NO_TUPLES + (list(RANKS),):
            self.assert_ranks(None, thing)
            self.assert_ranks(None, thing, coder=STILL)

    def test_each_thing(self):
        couple, rank = RANKS[1]
        wrong = NO_PAIRS + (couple, couple + (rank,), [couple, rank], ((couple,), rank), (couple[::-1], rank))
        wrong += tuple((thing, rank) for thing in NO_PAIRS + tuple(couple))
        wrong += tuple((couple, thing) for thing in NO_PARTS if not (type(thing) is int and thing > 0))
        wrong += tuple(((thing, (3, 0)), rank) for thing in no_states(DROPS))
        wrong += tuple((((0, 0), thing), rank) for thing in no_states(DROPS))
        for thing in wrong:
            for index in range(5):
                self.assert_fault("ranks", index, ("heals", replaced(RANKS, index, thing), WORST))
            self.assert_ranks(5, RANKS + (thing,))

    def test_the_order(self):
        self.assert_ranks(1, RANKS[:1] + RANKS)
        self.assert_ranks(1, RANKS[::-1])
        self.assert_ranks(5, RANKS + RANKS[4:])

    def test_each_follower(self):
        self.assert_ranks(0, RANKS[:2] + RANKS[3:])
        self.assert_ranks(0, RANKS[:4])
        self.assert_ranks(1, RANKS[:3] + RANKS[4:])
        self.assert_ranks(2, replaced(RANKS, 2, (RANKS[2][0], 1)))
        self.assert_ranks(0, replaced(RANKS, 2, (RANKS[2][0], 3)))
        self.assert_ranks(4, replaced(RANKS, 4, None))
        self.assert_ranks(4, replaced(replaced(RANKS, 4, None), 0, (RANKS[0][0], 1)))

    def test_the_states_behind_a_damage_are_not_listed(self):
        self.assert_ranks(4, RANKS[1:])
        self.assert_ranks(3, RANKS[2:])
        self.assert_ranks(4, RANKS[:1] + RANKS[2:])
        self.assert_ranks(0, ())
        self.assert_ranks(0, (), coder=TINY)
        for kind in KINDS:
            self.assert_ranks(1, RANKS[4:], kind=kind)

    def test_no_worst(self):
        for worst in NO_PARTS + NO_TUPLES + (WORST[:2], WORST + ((),), list(WORST), {}):
            if worst is not None and not (type(worst) is tuple and len(worst) == 3):
                self.assert_fault("worst", None, ("heals", RANKS, worst))
        self.assert_fault("worst", None, ("heals", RANKS, None))

    def test_a_worst_where_no_damage_leaves_unequal_states(self):
        for worst in NO_PARTS + (WORST, ((0, 0), (0,), ()), ((0, 0), (0, 1), ())):
            if worst is not None:
                self.assert_fault("worst", None, ("heals", (), worst), coder=STILL)
                self.assert_fault("worst", None, ("heals", (), worst), coder=STILL, kind="other")

    def test_no_state(self):
        for state in no_states(DROPS):
            for row in ((0, 0), None, (9,)):
                self.assert_fault("codes", None, ("heals", RANKS, (state, (0,), row)))

    def test_no_codes(self):
        for codes in NO_TUPLES + ((), (0, 1), (0, 0), [0], (0, 1, 0)) + tuple((code,) for code in NO_CODES):
            for row in ((0, 0), None, (9,)):
                self.assert_fault("codes", None, ("heals", RANKS, ((0, 0), codes, row)))
        ranks = (RANKS[2], RANKS[4])
        self.assert_taken(("heals", ranks, ((0, 0), (0, 1), (0,))), kind="other")
        for codes in NO_TUPLES + ((), (0,), (1,), (0, 0), (1, 1), [0, 1], (0, 1, 0), (0, 1, 1)):
            for row in ((0,), None, (9,)):
                self.assert_fault("codes", None, ("heals", ranks, ((0, 0), codes, row)), kind="other")
        for code in NO_CODES:
            for codes in ((code, 0), (1, code)):
                self.assert_fault("codes", None, ("heals", ranks, ((0, 0), codes, (0,))), kind="other")

    def test_no_row(self):
        for row in NO_TUPLES + ([0, 0], "00", (), (0,), (0, 0, 0), (0,) * 3000):
            self.assert_fault("worst", None, ("heals", RANKS, ((0, 0), (0,), row)))
        for code in NO_CODES:
            self.assert_fault("worst", None, ("heals", RANKS, ((0, 0), (0,), (0, code))))
            self.assert_fault("worst", None, ("heals", RANKS, ((0, 0), (0,), (code, 0))))

    def test_a_damage_that_leaves_equal_states(self):
        self.assert_fault("worst", None, ("heals", RANKS, ((3, 0), (0,), (0, 0))))


class FailsTest(PaperTest):
    """TINY: behind a loss at level 0 the states (1, 0) and (0, 0) are left; the ring (1, 0) keeps them apart."""

    def assert_fault(self, part, number, paper, coder=TINY, kind="lost"):
        PaperTest.assert_fault(self, part, number, paper, coder, kind)

    def assert_taken(self, paper, coder=TINY, kind="lost"):
        PaperTest.assert_taken(self, paper, coder, kind)

    def test_taken(self):
        for lead, ring in (((), (1, 0)), ((1,), (0, 1)), ((1, 0) * 2000, (1, 0) * 3000)):
            self.assert_taken(("fails", (0, 0), (0,), lead, ring))
        self.assert_taken(("fails", (-1, 0), (0,), (), (1, 0)), kind="twice")
        self.assert_taken(("fails", (1, 0), (0, 1), (), (1, 0)), kind="other")
        self.assert_taken(("fails", (-1, 0), (1, 0), (0,), (1, 0)), kind="other")

    def test_states_that_no_row_brings_together(self):
        # At the last place nothing moves any more.
        coder = (0, 7, (8, 1), ((4, 1), (0, 1)), 0)
        self.assertEqual(together(coder, (0, 1), (4, 1))[0], "never")
        for lead, ring in (((), (0,)), ((0, 1), (1, 1, 0))):
            self.assert_taken(("fails", (0, 0), (0, 1), lead, ring), coder, "other")

    def test_no_state(self):
        for state in no_states(TINY):
            for lead, ring in (((), (1, 0)), (None, ()), ((9,), None)):
                self.assert_fault("codes", None, ("fails", state, (0,), lead, ring))

    def test_no_codes(self):
        for lead, ring in (((), (1, 0)), (None, ()), ((9,), None)):
            for codes in NO_TUPLES + ((), (0, 1), (0, 0), [0]) + tuple((code,) for code in NO_CODES):
                self.assert_fault("codes", None, ("fails", (0, 0), codes, lead, ring))
                self.assert_fault("codes", None, ("fails", (0, 0), codes, lead, ring), kind="twice")
            for codes in NO_TUPLES + ((), (0,), (0, 0), (1, 1), [0, 1], (0, 1, 0)):
                self.assert_fault("codes", None, ("fails", (0, 0), codes, lead, ring), kind="other")
        for code in NO_CODES:
            self.assert_fault("codes", None, ("fails", (0, 0), (code, 0), (), (1, 0)), kind="other")
            self.assert_fault("codes", None, ("fails", (0, 0), (0, code), (), (1, 0)), kind="other")

    def test_no_lead(self):
        for lead in NO_TUPLES + ([], [1], (0,), (1, 1), (0, 0)):
            self.assert_fault("ring", None, ("fails", (0, 0), (0,), lead, (1, 0)))
        for code in NO_CODES:
            self.assert_fault("ring", None, ("fails", (0, 0), (0,), (code,), (0, 1)))

    def test_no_ring(self):
        for ring in NO_TUPLES + ([1, 0], (), (1,), (0,), (0, 1), (1, 1), (1, 0, 1)):
            self.assert_fault("ring", None, ("fails", (0, 0), (0,), (), ring))
        for code in NO_CODES:
            self.assert_fault("ring", None, ("fails", (0, 0), (0,), (), (1, 0, code)))

    def test_a_damage_that_leaves_equal_states(self):
        for lead, ring in (((), (1, 0)), ((), (0,)), ((0,), (1, 0))):
            self.assert_fault("ring", None, ("fails", (1, 0), (0,), lead, ring))
            self.assert_fault("ring", None, ("fails", (1, 0), (0,), lead, ring), kind="twice")

    def test_a_kind_that_heals(self):
        for kind, codes in (("lost", (0,)), ("twice", (1,)), ("other", (0, 1))):
            for ring in ((0,), (1,), (0, 1), (0, 0, 0)):
                self.assert_fault("ring", None, ("fails", (0, 0), codes, (), ring), DROPS, kind)


class SpoiledTest(PaperTest):
    def assert_verdict(self, search, kind, paper):
        verdict = verdict_healing(search, kind, paper)
        if type(verdict) is str:
            self.assertEqual(check_healing(search.coder, kind, paper), verdict)
        else:
            self.assert_refused(BadPaper, dict(zip(("part", "number"), verdict)),
                                check_healing, search.coder, kind, paper)
        return verdict

    def test_papers_of_other_kinds(self):
        for search in [Search(coder) for coder in few_coders(60)]:
            for kind in KINDS:
                for other in KINDS:
                    self.assert_verdict(search, other, healing(search.coder, kind))

    def test_papers_spoiled_at_any_depth(self):
        rng = Random(17)
        verdicts = {}
        for search in [Search(coder) for coder in list(few_coders(40)) + [DROPS, STILL, LEAST, TINY]]:
            for kind in KINDS:
                told = healing(search.coder, kind)
                for _ in range(40):
                    paper = told
                    for _ in range(rng.choice((1, 1, 2))):
                        paper = spoiled(rng, paper, NO_PARTS)
                    verdict = self.assert_verdict(search, kind, paper)
                    verdicts[verdict if type(verdict) is str else verdict[0]] = True
        self.assertEqual(set(verdicts), {"heals", "fails", "form", "ranks", "worst", "codes", "ring"})


class RefusedTest(Refusals, unittest.TestCase):
    CALLS = (healing, lambda coder, kind: check_healing(coder, kind, None))

    def test_no_coder(self):
        for call in self.CALLS:
            for thing in NO_CODERS:
                self.assert_refused(BadCoder, {}, call, thing, None)
            self.assert_refused(BadCoder, {"part": "fade", "number": None}, call, replaced(GREATEST, 4, 1), "lost")

    def test_too_many_states(self):
        for coder in (coder_with(257), coder_with(129, 2), coder_with(17, 16), coder_with(4097, 1, 2), GREATEST):
            for call in self.CALLS:
                self.assert_refused(TooGreat, {"most": 256}, call, coder, "lost")
                self.assert_refused(TooGreat, {"most": 256}, call, coder, None)

    def test_no_kind(self):
        for call in self.CALLS:
            for thing in NO_PARTS + NO_TUPLES + ("", "Lost", "lost ", "heals", b"lost", ("lost",), ["lost"]):
                if not (type(thing) is str and thing == "lost"):
                    self.assert_refused(OutOfPlace, {}, call, SMALL, thing)
        self.assert_refused(OutOfPlace, {}, healing, coder=SMALL, kind=None)
        self.assert_refused(OutOfPlace, {}, check_healing, coder=SMALL, kind=None, paper=("heals", (), None))


if __name__ == "__main__":
    unittest.main()
