"""[4] to [18] for a coder and for that with the opposite limits and shares: [23]."""

import unittest
from random import Random

from stepsound.alike import alike, check_alike, classes
from stepsound.clips import Clip
from stepsound.coders import change_of, is_coder, led_to
from stepsound.damage import check_healing, healed, healing, received
from stepsound.desk import Desk
from stepsound.following import check_followed, followed, greatest_loss
from stepsound.hearers import Hearer
from stepsound.hearing import heard, last_state
from stepsound.maps import limits_of, row_map
from stepsound.repeats import last_of, sample_at, settling
from stepsound.seams import reached, row_to, seam
from stepsound.speaking import best_row, check_best, error_of, greedy_row
from stepsound.together import check_together, joining_row, merging_row, together
from tests.search import few_coders
from tests.things import CLIMB, FADING, GREATEST, SMALL, random_coders, random_row, random_signal, replaced, states


def turned(coder):
    """The coder with the limits and shares turned to their opposites."""
    low, high, steps, moves, fade = coder
    return -high, -low, steps, tuple((-share, turn) for share, turn in moves), fade


def other(state):
    return -state[0], state[1]


def others(listed):
    return tuple(sorted(other(state) for state in listed))


def negative(numbers):
    return tuple(-number for number in numbers)


class OppositesTest(unittest.TestCase):
    def setUp(self):
        self.rng = Random(81)
        self.coders = list(few_coders(60)) + [SMALL, CLIMB]

    def test_what_is_heard(self):
        for coder in list(random_coders(60)) + [SMALL, FADING, replaced(GREATEST, 0, -32767)]:
            opposite = turned(coder)
            row = random_row(self.rng, coder, 30)
            state = self.rng.randint(coder[0], coder[1]), self.rng.randrange(len(coder[2]))
            self.assertEqual(heard(opposite, row, state=other(state)), negative(heard(coder, row, state=state)))
            self.assertEqual(last_state(opposite, row, state=other(state)), other(last_state(coder, row, state=state)))
            self.assertEqual(led_to(opposite, other(state), row[0]), other(led_to(coder, state, row[0])))
            self.assertEqual(change_of(opposite, row[0], state[1]), -change_of(coder, row[0], state[1]))

    def test_the_opposite_of_a_coder_may_be_none(self):
        self.assertTrue(is_coder(GREATEST))
        self.assertFalse(is_coder(turned(GREATEST)))

    def test_repeats(self):
        for coder in list(random_coders(60)) + self.coders:
            opposite = turned(coder)
            row = random_row(self.rng, coder, 5)
            state = self.rng.randint(coder[0], coder[1]), self.rng.randrange(len(coder[2]))
            times, last = settling(coder, row, state=state)
            self.assertEqual(settling(opposite, row, state=other(state)), (times, other(last)))
            for many in (0, 1, 3, 10 ** 30):
                self.assertEqual(last_of(opposite, row, many, state=other(state)),
                                 other(last_of(coder, row, many, state=state)))
                self.assertEqual(sample_at(opposite, row, many, state=other(state)),
                                 -sample_at(coder, row, many, state=state))

    def test_maps(self):
        for coder in list(random_coders(60)) + self.coders:
            opposite = turned(coder)
            row = random_row(self.rng, coder, 6)
            for place in range(len(coder[2])):
                told, behind = row_map(coder, row, place)
                self.assertEqual(row_map(opposite, row, place), (negative(told[::-1]), behind))
                if coder[4] == 0:
                    change, least, most, behind = limits_of(coder, row, place)
                    self.assertEqual(limits_of(opposite, row, place), (-change, -most, -least, behind))

    def test_states_that_come_together(self):
        for coder in self.coders:
            opposite = turned(coder)
            for one in states(coder)[::4]:
                for two in states(coder)[::3]:
                    paper = together(coder, one, two)
                    self.assertEqual(together(opposite, other(one), other(two))[0], paper[0])
                    self.assertEqual(joining_row(opposite, other(one), other(two)), joining_row(coder, one, two))
                    if paper[0] == "always":
                        ranks = sorted((others(couple), rank) for couple, rank in paper[1])
                        paper = "always", tuple(ranks), paper[2]
                    if paper[0] == "never":
                        paper = "never", tuple(sorted(others(couple) for couple in paper[1]))
                    self.assertEqual(check_together(opposite, other(one), other(two), paper), paper[0])
            for place in range(len(coder[2])):
                self.assertEqual(merging_row(opposite, place), merging_row(coder, place))

    def test_damage(self):
        for coder in self.coders:
            opposite = turned(coder)
            row = random_row(self.rng, coder, 6)
            for damage in (("lost", 1), ("twice", 0)):
                self.assertEqual(received(opposite, row, damage), received(coder, row, damage))
                self.assertEqual(healed(opposite, row, damage, state=(-coder[1], 0)),
                                 healed(coder, row, damage, state=(coder[1], 0)))
            for kind in ("lost", "twice", "other"):
                word = healing(coder, kind)[0]
                self.assertEqual(check_healing(opposite, kind, healing(opposite, kind)), word)

    def test_coders_that_sound_alike(self):
        for coder in self.coders:
            opposite = turned(coder)
            near = replaced(coder, 2, coder[2] + (8,))
            for one in states(coder)[::4]:
                for two in states(near)[::3]:
                    word, things = alike(coder, near, one, two)
                    if word == "alike":
                        things = tuple(sorted((other(first), other(second)) for first, second in things))
                    paper = alike(opposite, turned(near), other(one), other(two))
                    self.assertEqual(paper, (word, things))
                    self.assertIs(check_alike(opposite, turned(near), other(one), other(two), paper), word == "alike")
            self.assertEqual(classes(opposite), tuple(sorted(others(group) for group in classes(coder))))

    def test_speaking(self):
        for coder in self.coders:
            opposite = turned(coder)
            signal = random_signal(self.rng, coder, 5)
            row = random_row(self.rng, coder, 5)
            for state in states(coder)[::2]:
                self.assertEqual(error_of(opposite, negative(signal), row, state=other(state)),
                                 error_of(coder, signal, row, state=state))
                self.assertEqual(greedy_row(opposite, negative(signal), state=other(state)),
                                 greedy_row(coder, signal, state=state))
                best, error, prices = best_row(opposite, negative(signal), state=other(state))
                self.assertEqual(best_row(coder, signal, state=state)[:2], (best, error))
                self.assertEqual(check_best(opposite, negative(signal), best, prices, state=other(state)), error)

    def test_following(self):
        for coder in self.coders:
            opposite = turned(coder)
            signal = random_signal(self.rng, coder, 4)
            for state in states(coder)[::2]:
                paper = followed(coder, signal, 1, state=state)
                if paper[0] == "lost":
                    paper = paper[:2] + (tuple(others(each) for each in paper[2]),)
                self.assertEqual(followed(opposite, negative(signal), 1, state=other(state)), paper)
                self.assertIs(check_followed(opposite, negative(signal), 1, paper, state=other(state)),
                              paper[0] == "row")
                if len(states(coder)) <= 32:
                    self.assertEqual(greatest_loss(opposite, 3, state=other(state))[0],
                                     greatest_loss(coder, 3, state=state)[0])

    def test_seams(self):
        for coder in self.coders:
            opposite = turned(coder)
            row = random_row(self.rng, coder, 3)
            for one in states(coder)[::2]:
                self.assertEqual(reached(opposite, other(one)), others(reached(coder, one)))
                for two in states(coder)[::3]:
                    self.assertEqual(row_to(opposite, other(one), other(two)), row_to(coder, one, two))
                    self.assertEqual(seam(opposite, other(one), row, state=other(two)), seam(coder, one, row, state=two))

    def test_hearers(self):
        for coder in list(random_coders(20)) + self.coders:
            state = self.rng.randint(coder[0], coder[1]), self.rng.randrange(len(coder[2]))
            hearer, opposite = Hearer(coder, state=state), Hearer(turned(coder), state=other(state))
            for code in random_row(self.rng, coder, 20):
                self.assertEqual(opposite(code), -hearer(code))
                self.assertEqual(opposite.state, other(hearer.state))

    def test_clips(self):
        for coder in self.coders:
            row = random_row(self.rng, coder, 3)
            for state in states(coder)[::3]:
                clip, opposite = Clip(coder, row, state=state), Clip(turned(coder), row, state=other(state))
                self.assertEqual((opposite.heard(), opposite.last()), (negative(clip.heard()), other(clip.last())))
                if seam(coder, clip.last(), row, state=state) is not None:
                    self.assertEqual((opposite + opposite).codes, (clip + clip).codes)
                self.assertEqual([-level in opposite for level in range(-9, 10)],
                                 [level in clip for level in range(-9, 10)])

    def test_desks(self):
        for coder in self.coders:
            desk, opposite = Desk(Clip(coder, (0, 1, 1, 0))), Desk(Clip(turned(coder), (0, 1, 1, 0)))
            for step in (("put", 2, 0), ("cut", 0, 2), ("set", 1, 1), ("put", 0, 1)):
                first, old, new = desk.do(step)
                self.assertEqual(opposite.do(step), (first, negative(old), negative(new)))
            first, old, new = desk.do(("from", (coder[1], 0)))
            self.assertEqual(opposite.do(("from", (-coder[1], 0))), (first, negative(old), negative(new)))


if __name__ == "__main__":
    unittest.main()
