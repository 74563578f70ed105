"""Hearers: [1], [4], and stepsound/hearers.py."""

import unittest
from random import Random

from stepsound.errors import BadCoder, OutOfPlace
from stepsound.hearers import Hearer
from tests.things import CODERS, FADING, HUGE, NO_CODERS, Refusals, SMALL, TINY, WRONG_NUMBERS
from tests.things import no_states, random_coders, random_row, states, told_row

ROW = (2, 2, 0, 3)


class HearerTest(unittest.TestCase):
    def test_the_example(self):
        hearer = Hearer(SMALL)
        self.assertEqual((hearer.state, hearer.many), ((0, 0), 0))
        for code, state in zip(ROW, ((2, 1), (6, 2), (7, 1), (3, 2))):
            self.assertEqual(hearer(code), state[0])
            self.assertEqual(hearer.state, state)
        self.assertEqual(hearer.many, 4)

    def test_the_state_left_out_is_start(self):
        for coder in CODERS:
            for hearer in (Hearer(coder), Hearer(coder=coder), Hearer(coder, state=(0, 0))):
                self.assertEqual((hearer.state, hearer.many), ((0, 0), 0))
                self.assertEqual(hearer(code=1), told_row(coder, (1,), (0, 0))[0][0])

    def test_every_state_and_random_rows(self):
        rng = Random(8)
        for coder in [SMALL, TINY, FADING] + list(random_coders(10)):
            for state in states(coder)[::5]:
                row = random_row(rng, coder, rng.randint(0, 20))
                hearer = Hearer(coder, state=state)
                samples, last = told_row(coder, row, state)
                self.assertEqual(tuple([hearer(code) for code in row]), samples)
                self.assertEqual((hearer.state, hearer.many), (last, len(row)))

    def test_many_codes(self):
        hearer = Hearer(TINY)
        samples = [hearer(code) for code in (0, 1) * 2500]
        self.assertEqual(samples, [1, 0] * 2500)
        self.assertEqual(hearer.many, 5000)

    def test_jumps(self):
        for state in states(SMALL):
            hearer = Hearer(SMALL)
            hearer(2)
            self.assertIsNone(hearer.jump(state))
            self.assertEqual((hearer.state, hearer.many), (state, 1))
            self.assertEqual(hearer(3), told_row(SMALL, (3,), state)[0][0])
            hearer.jump(state=(0, 0))
            self.assertEqual((hearer.state, hearer.many), ((0, 0), 2))
            self.assertEqual(hearer(2), 2)

    def test_hearers_go_on_by_themselves(self):
        one, other = Hearer(SMALL), Hearer(SMALL)
        one(2)
        other(3)
        one(2)
        self.assertEqual((one.state, one.many, other.state, other.many), ((6, 2), 2, (-2, 1), 1))

    def test_copies_on_the_way(self):
        hearer = Hearer(SMALL, state=(1, 0))
        copies = []
        told = []
        for code in ROW:
            copies.append(hearer.copy())
            told.append((hearer.state, hearer.many))
            hearer(code)
        self.assertEqual([(copy.state, copy.many) for copy in copies], told)
        for index, copy in enumerate(copies):
            self.assertIs(copy.__class__, Hearer)
            samples = tuple([copy(code) for code in ROW[index:]])
            self.assertEqual(samples, told_row(SMALL, ROW, (1, 0))[0][index:])
            self.assertEqual((copy.state, copy.many), (hearer.state, hearer.many))

    def test_copies_go_on_by_themselves(self):
        hearer = Hearer(SMALL)
        hearer(2)
        copy = hearer.copy()
        copy(2)
        copy.jump((-8, 0))
        self.assertEqual((hearer.state, hearer.many), ((2, 1), 1))
        hearer(0)
        hearer(0)
        self.assertEqual((copy.state, copy.many), ((-8, 0), 2))
        other = copy.copy()
        other(2)
        self.assertEqual((copy.state, copy.many, other.state, other.many), ((-8, 0), 2, (-6, 1), 3))

    def test_what_was_told_before_stays(self):
        hearer = Hearer(SMALL)
        state, many = hearer.state, hearer.many
        hearer(2)
        self.assertEqual((state, many), ((0, 0), 0))


class RefusedTest(Refusals, unittest.TestCase):
    def test_no_coder(self):
        for thing in NO_CODERS:
            self.assert_refused(BadCoder, {}, Hearer, thing)
            self.assert_refused(BadCoder, {}, Hearer, coder=thing, state=None)
        self.assert_refused(BadCoder, {"part": "moves", "number": 1}, Hearer, (0, 0, (1,), ((0, 0), 0), 0))

    def test_no_state(self):
        for thing in no_states(SMALL):
            self.assert_refused(OutOfPlace, {}, Hearer, SMALL, state=thing)
        with self.assertRaises(TypeError):
            Hearer(SMALL, (0, 0))

    def test_refused_codes_change_nothing(self):
        hearer = Hearer(SMALL)
        hearer(2)
        for thing in WRONG_NUMBERS + (-1, 4, 16, HUGE):
            self.assert_refused(OutOfPlace, {}, hearer.__call__, thing)
            self.assert_refused(OutOfPlace, {}, hearer.__call__, code=thing)
            with self.assertRaises(OutOfPlace):
                hearer(thing)
            self.assertEqual((hearer.state, hearer.many), ((2, 1), 1))
        self.assertEqual(hearer(2), 6)

    def test_refused_states_change_nothing(self):
        hearer = Hearer(SMALL)
        hearer(2)
        for thing in no_states(SMALL):
            self.assert_refused(OutOfPlace, {}, hearer.jump, thing)
            self.assert_refused(OutOfPlace, {}, hearer.jump, state=thing)
            self.assertEqual((hearer.state, hearer.many), ((2, 1), 1))
        self.assertEqual(hearer(2), 6)


if __name__ == "__main__":
    unittest.main()
