"""A damage of a row and the step of a desk that does the same: [9], [10], [18]."""

import unittest
from random import Random

from stepsound.clips import Clip
from stepsound.damage import check_healing, healed, healing, received
from stepsound.desk import Desk
from stepsound.hearers import Hearer
from tests.plain import told_report
from tests.search import few_coders
from tests.test_damage import damages_of, told_healed
from tests.things import CLIMB, DROPS, FADING, SMALL, TINY, random_row, states, told_row


def step_of(row, damage):
    """The step that does to a clip of the row what the damage does."""
    kind, index = damage[:2]
    if kind == "lost":
        return "cut", index, index + 1
    if kind == "twice":
        return "put", index, row[index]
    return "set", index, damage[2]


def told_damages(seed, coders):
    """(CODER, ROW, STATE, DAMAGE)"""
    rng = Random(seed)
    for coder in coders:
        for state in rng.sample(states(coder), min(4, len(states(coder)))):
            row = random_row(rng, coder, 7)
            for damage in damages_of(coder, row):
                yield coder, row, state, damage


class DamageTest(unittest.TestCase):
    CODERS = list(few_coders(60)) + [SMALL, TINY, CLIMB, DROPS, FADING]

    def test_the_same_codes(self):
        for coder, row, state, damage in told_damages(23, self.CODERS):
            desk = Desk(Clip(coder, row, state=state))
            report = desk.do(step_of(row, damage))
            codes = received(coder, row, damage)
            self.assertEqual(desk.clip(), Clip(coder, codes, state=state))
            self.assertEqual(desk.heard(), told_row(coder, codes, state)[0])
            self.assertEqual(report, told_report(told_row(coder, row, state)[0], desk.heard()))
            desk.undo()
            self.assertEqual(desk.clip().codes, row)

    def test_the_code_that_is_received_twice_may_be_put_behind_itself(self):
        row = (2, 2, 0, 3)
        for index in range(4):
            desk, other = Desk(Clip(SMALL, row)), Desk(Clip(SMALL, row))
            self.assertEqual(desk.do(("put", index, row[index])), other.do(("put", index + 1, row[index])))
            self.assertEqual(desk.clip().codes, received(SMALL, row, ("twice", index)))
            self.assertEqual(desk.clip(), other.clip())

    def test_the_report_tells_where_both_are_heard_alike_again(self):
        found = {}
        for coder, row, state, damage in told_damages(24, self.CODERS):
            clip = Clip(coder, row, state=state)
            first, old, new = Desk(clip).do(step_of(row, damage))
            many = healed(coder, row, damage, state=state)
            self.assertEqual(many, told_healed(coder, row, damage, state))
            self.assertTrue(first >= damage[1])
            found[many] = True
            if many is None:
                continue
            # Behind the code by which it is healed, and by then at the latest, both are heard alike.
            last = damage[1] + 1 + many
            self.assertTrue(first + len(old) <= max(last, first + 1))
            more = len(new) - len(old)
            self.assertEqual(more, {"lost": -1, "twice": 1, "other": 0}[damage[0]])
            hearer = told_row(coder, received(coder, row, damage), state)[0]
            self.assertEqual(hearer[last + more:], clip.heard()[last:])
        self.assertTrue({None, 0, 1, 2, 3, 4} <= set(found))

    def test_hearers_of_both(self):
        for coder, row, state, damage in told_damages(25, self.CODERS[:30]):
            speaker, hearer = Hearer(coder, state=state), Hearer(coder, state=state)
            codes = received(coder, row, damage)
            index = damage[1]
            more = len(codes) - len(row)
            for code in row[:index + 1]:
                speaker(code)
            for code in codes[:index + 1 + more]:
                hearer(code)
            many = 0
            while speaker.state != hearer.state and index + 1 + many < len(row):
                self.assertEqual(row[index + 1 + many], codes[index + 1 + more + many])
                speaker(row[index + 1 + many])
                hearer(row[index + 1 + many])
                many += 1
            told = many if speaker.state == hearer.state else None
            self.assertEqual(healed(coder, row, damage, state=state), told)


class HealingTest(unittest.TestCase):
    def test_the_worst_damage_on_a_desk(self):
        heals = 0
        for coder in list(few_coders(80)) + [SMALL, TINY, DROPS, CLIMB]:
            for kind in ("lost", "twice", "other"):
                paper = healing(coder, kind)
                self.assertEqual(check_healing(coder, kind, paper), paper[0])
                if paper[0] == "heals" and paper[2] is not None:
                    heals += 1
                    self.assert_worst(coder, kind, paper[2])
        self.assertTrue(heals > 30)

    def assert_worst(self, coder, kind, worst):
        state, codes, row = worst
        damage = (kind, 0) + codes[1:]
        for code in range(len(coder[3])):
            clip = Clip(coder, codes[:1] + row + (code,), state=state)
            desk = Desk(clip)
            desk.do(step_of(clip.codes, damage))
            self.assertEqual(desk.clip().last(), clip.last())
            whole = len(desk.clip())
            self.assertNotEqual(desk.clip().stretch(whole - 1, whole).state, clip.stretch(len(clip) - 1, len(clip)).state)

    def test_a_damage_that_fails_on_a_desk(self):
        fails = 0
        for coder in list(few_coders(80)) + [SMALL, TINY, DROPS, CLIMB]:
            for kind in ("lost", "twice", "other"):
                paper = healing(coder, kind)
                if paper[0] == "fails":
                    fails += 1
                    state, codes, lead, ring = paper[1:]
                    for times in (0, 1, 2, 5):
                        clip = Clip(coder, codes[:1] + lead, state=state)
                        clip += ring * times
                        desk = Desk(clip)
                        desk.do(step_of(clip.codes, (kind, 0) + codes[1:]))
                        self.assertNotEqual(desk.clip().last(), clip.last())
        self.assertTrue(fails > 30)


if __name__ == "__main__":
    unittest.main()
