"""Rows for signals: [1], [13]."""

import unittest
from itertools import product
from random import Random

from stepsound.errors import BadCoder, BadPaper, BadRow, OutOfPlace, TooGreat
from stepsound.speaking import best_row, check_best, error_of, greedy_row
from tests.search import few_coders, spoiled
from tests.things import CLIMB, DROPS, FADING, GREATEST, HUGE, LEAST, NO_CODERS, NO_NUMBERS, NO_PARTS
from tests.things import NO_SIGNALS, NO_TUPLES, Refusals, SMALL, STILL, TINY, coder_with, no_states, random_coders
from tests.things import random_row, random_signal, replaced, states, told_row, told_step

SIGNAL = (1, 5)
PRICES = best_row(CLIMB, SIGNAL)[2]
FAR = (-40000, 40000, -40000)


def told_error(coder, signal, row, state):
    return sum(abs(number - sample) for number, sample in zip(signal, told_row(coder, row, state)[0]))


def told_greedy(coder, signal, state):
    row = ()
    for number in signal:
        near = [abs(number - told_step(coder, state, code)[1][0]) for code in range(len(coder[3]))]
        row += (min(range(len(near)), key=lambda code: (near[code], code)),)
        state = told_step(coder, state, row[-1])[1]
    return row


def verdict(coder, signal, row, prices, state):
    """The error of a row, or the (part, number) of the first fault of PRICES."""
    if type(prices) is not tuple or len(prices) != len(signal) + 1:
        return "prices", None
    every = states(coder)
    for index, layer in enumerate(prices):
        if type(layer) is not tuple or len(layer) != len(every) or not all(type(one) is int for one in layer):
            return "prices", index
    for index, number in enumerate(signal):
        for one, price in zip(every, prices[index]):
            for code in range(len(coder[3])):
                after = told_step(coder, one, code)[1]
                if price > abs(number - after[0]) + prices[index + 1][every.index(after)]:
                    return "prices", index
    if any(prices[-1]):
        return "prices", len(signal)
    error = told_error(coder, signal, row, state)
    return error if error == prices[0][every.index(state)] else ("row", None)


class ErrorTest(unittest.TestCase):
    def test_the_example(self):
        self.assertEqual(error_of(CLIMB, SIGNAL, (0, 0)), 3)
        self.assertEqual(error_of(coder=CLIMB, signal=SIGNAL, row=(1, 0), state=(0, 0)), 0)

    def test_the_empty_signal(self):
        for coder in (CLIMB, FADING, GREATEST):
            self.assertEqual(error_of(coder, (), ()), 0)
            self.assertEqual(error_of(coder, (), (), state=(0, 0)), 0)

    def test_the_bounds(self):
        self.assertEqual(error_of(TINY, FAR, (0, 0, 1)), 40001 + 39999 + 40000)
        self.assertEqual(error_of(GREATEST, (-40000,), (0,), state=(32767, 15)), 40000 + 32767)
        self.assertEqual(error_of(LEAST, (40000,) * 64, (1,) * 64), 40000 * 64)

    def test_random_rows(self):
        rng = Random(41)
        for coder in list(random_coders(40)) + [SMALL, CLIMB, FADING, coder_with(5000, 2)]:
            for many in (0, 1, 9, 64):
                signal, row = random_signal(rng, coder, many), random_row(rng, coder, many)
                self.assertEqual(error_of(coder, signal, row), told_error(coder, signal, row, (0, 0)))
                state = (coder[1], len(coder[2]) - 1)
                self.assertEqual(error_of(coder, signal, row, state=state), told_error(coder, signal, row, state))


class GreedyTest(unittest.TestCase):
    def test_the_example(self):
        self.assertEqual(greedy_row(CLIMB, SIGNAL), (0, 0))
        self.assertEqual(greedy_row(coder=CLIMB, signal=SIGNAL, state=(0, 0)), (0, 0))

    def test_of_several_the_least_code(self):
        # Both samples are as far from 0.
        self.assertEqual(greedy_row(TINY, (0, 0, 0)), (0, 1, 0))
        self.assertEqual(greedy_row(TINY, (0, 0), state=(-1, 0)), (0, 0))
        # Codes with equal moves, and moves with equal samples at unlike places.
        self.assertEqual(greedy_row(LEAST, (5, -5)), (0, 0))
        self.assertEqual(greedy_row(CLIMB, (1, 2, 9)), (0, 0, 0))
        self.assertEqual(greedy_row(STILL, (1, -1, 0)), (0, 0, 0))

    def test_the_empty_signal(self):
        self.assertEqual(greedy_row(CLIMB, ()), ())
        self.assertEqual(greedy_row(GREATEST, (), state=(32767, 15)), ())

    def test_random_signals(self):
        rng = Random(42)
        for coder in list(random_coders(60)) + list(few_coders(60)) + [SMALL, CLIMB, FADING, coder_with(5000, 2)]:
            for many in (1, 7, 64):
                signal = random_signal(rng, coder, many)
                row = greedy_row(coder, signal)
                self.assertEqual(row, told_greedy(coder, signal, (0, 0)))
                self.assertIs(row.__class__, tuple)
                state = (coder[0], len(coder[2]) - 1)
                self.assertEqual(greedy_row(coder, signal, state=state), told_greedy(coder, signal, state))


class BestTest(unittest.TestCase):
    def test_the_example(self):
        row, error, prices = best_row(CLIMB, SIGNAL)
        self.assertEqual((row, error), ((1, 0), 0))
        self.assertEqual(check_best(CLIMB, SIGNAL, row, prices), 0)
        self.assertEqual(best_row(coder=CLIMB, signal=SIGNAL, state=(0, 0)), (row, error, prices))

    def test_the_empty_signal(self):
        for coder in (CLIMB, TINY, SMALL, LEAST):
            told = best_row(coder, ())
            self.assertEqual(told, ((), 0, ((0,) * len(states(coder)),)))
            self.assertEqual(check_best(coder, (), (), told[2]), 0)

    def test_against_all_rows(self):
        rng = Random(43)
        for coder in list(few_coders(150)) + [TINY, CLIMB, DROPS, STILL, LEAST, SMALL]:
            for many in range(6 if len(coder[3]) == 2 else 4):
                signal = random_signal(rng, coder, many)
                state = rng.choice(states(coder))
                rows = list(product(range(len(coder[3])), repeat=many))
                errors = [told_error(coder, signal, row, state) for row in rows]
                row, error, prices = best_row(coder, signal, state=state)
                self.assertEqual((row, error), (rows[errors.index(min(errors))], min(errors)))
                self.assertEqual(verdict(coder, signal, row, prices, state), error)
                self.assertEqual(check_best(coder, signal, row, prices, state=state), error)

    def test_the_first_of_several_rows(self):
        self.assertEqual(best_row(TINY, (0, 0))[:2], ((0, 1), 1))
        self.assertEqual(best_row(LEAST, (7, 7, 7))[:2], ((0, 0, 0), 21))
        self.assertEqual(best_row(STILL, (1, -1), state=(1, 1))[:2], ((0, 0), 2))
        # The codes 0 and 1 are heard alike first, but only the second one leads to the great step.
        coder = replaced(CLIMB, 3, ((8, -1), (8, 1), (8, 1), (-8, -1)))
        self.assertEqual(best_row(coder, (1, 5))[:2], ((1, 0), 0))

    def test_64_numbers(self):
        rng = Random(44)
        for coder in (coder_with(256), coder_with(16, 16), coder_with(128, 2, 9), CLIMB, FADING):
            signal = random_signal(rng, coder, 64)
            row, error, prices = best_row(coder, signal)
            self.assertEqual((len(row), len(prices)), (64, 65))
            self.assertEqual(check_best(coder, signal, row, prices), error)
            self.assertTrue(error <= error_of(coder, signal, greedy_row(coder, signal)))
        # Nothing is as near to the numbers as a row that was heard itself.
        row = random_row(rng, SMALL, 64)
        signal = told_row(SMALL, row, (7, 2))[0]
        self.assertEqual(best_row(SMALL, signal, state=(7, 2))[1], 0)

    def test_sixteen_codes(self):
        coder = (-8, 7, (1, 2, 3, 5) * 4, tuple((share, share // 2) for share in range(-16, 16, 2)), 0)
        signal = random_signal(Random(45), coder, 64)
        row, error, prices = best_row(coder, signal, state=(7, 15))
        self.assertEqual(check_best(coder, signal, row, prices, state=(7, 15)), error)

    def test_the_bounds(self):
        row, error, prices = best_row(TINY, FAR, state=(1, 0))
        self.assertEqual((row, error), ((1, 0, 1), 40000 + 39999 + 40000))
        self.assertEqual(check_best(coder=TINY, signal=FAR, row=row, prices=prices, state=(1, 0)), error)

    def test_nothing_is_kept(self):
        first = best_row(SMALL, (1, 2, 3))
        with self.assertRaises(OutOfPlace):
            best_row(SMALL, (1, 2, None))
        self.assertEqual(best_row(SMALL, (1, 2, 3)), first)


class CheckTest(Refusals, unittest.TestCase):
    def assert_fault(self, part, number, prices, row=(1, 0), signal=SIGNAL, coder=CLIMB, state=(0, 0)):
        fields = {"part": part, "number": number}
        self.assert_refused(BadPaper, fields, check_best, coder, signal, row, prices, state=state)

    def test_other_prices(self):
        # Lesser prices of other states show the row, too.
        other = ((0,) + (-9,) * 17, replaced(PRICES[1], 8, -1), PRICES[2])
        self.assertEqual(check_best(CLIMB, SIGNAL, (1, 0), other), 0)
        self.assertEqual(check_best(coder=CLIMB, signal=SIGNAL, row=(1, 0), prices=other), 0)
        least = ((0,) + (-HUGE,) * 17,) + PRICES[1:]
        self.assertEqual(check_best(CLIMB, SIGNAL, (1, 0), least), 0)

    def test_another_row_with_the_least_error(self):
        prices = best_row(TINY, (0, 0))[2]
        for row in ((0, 1), (1, 0)):
            self.assertEqual(check_best(TINY, (0, 0), row, prices), 1)

    def test_no_tuple_of_as_many_things(self):
        for thing in NO_TUPLES + ((), PRICES[:2], PRICES + PRICES[2:], list(PRICES), PRICES[0]):
            self.assert_fault("prices", None, thing)
        self.assert_fault("prices", None, (), row=(), signal=())

    def test_each_thing(self):
        layer = PRICES[2]
        wrong = NO_PARTS + (layer[1:], layer + (0,), list(layer), (layer,))
        wrong += tuple(replaced(layer, 3, thing) for thing in NO_NUMBERS + ((), (0,)))
        for thing in wrong:
            for index in range(3):
                self.assert_fault("prices", index, replaced(PRICES, index, thing))
            self.assert_fault("prices", 1, (PRICES[0], thing, thing))

    def test_a_price_that_is_too_great(self):
        for index in range(2):
            for at in range(18):
                for more in (1, HUGE):
                    layer = replaced(PRICES[index], at, PRICES[index][at] + more)
                    self.assert_fault("prices", index, replaced(PRICES, index, layer))
        # A lesser price behind it makes a price too great.
        self.assert_fault("prices", 0, replaced(PRICES, 1, tuple(price - 1 for price in PRICES[1])))

    def test_last_prices(self):
        for at in range(18):
            self.assert_fault("prices", 2, replaced(PRICES, 2, replaced(PRICES[2], at, 1)))
            self.assert_fault("prices", 1, replaced(PRICES, 2, (-1,) * 18))
        self.assert_fault("prices", 2, ((-9,) * 18, (-9,) * 18, (-1,) * 18))
        for price in (1, -1, HUGE):
            self.assert_fault("prices", 0, ((price,) + (0,) * 17,), row=(), signal=())

    def test_the_row(self):
        for row in ((0, 0), (0, 1), (2, 2), (1, 2)):
            self.assertNotEqual(error_of(CLIMB, SIGNAL, row), 0)
            self.assert_fault("row", None, PRICES, row=row)
        # A row with the least error is refused, too, if the first price is less.
        self.assert_fault("row", None, replaced(PRICES, 0, (-1,) + PRICES[0][1:]))
        self.assert_fault("row", None, PRICES, state=(8, 1))

    def test_the_first_of_two_faults(self):
        great = replaced(PRICES[1], 17, HUGE)
        self.assert_fault("prices", 2, (PRICES[0], great, None))
        self.assert_fault("prices", 1, (PRICES[0], great, (1,) * 18))
        self.assert_fault("prices", 1, (PRICES[0], great, PRICES[2]), row=(0, 0))
        self.assert_fault("prices", 2, (PRICES[0], PRICES[1], replaced(PRICES[2], 9, 5)), row=(0, 0))

    def test_spoiled_prices(self):
        rng = Random(47)
        wrong = NO_PARTS + ((0, 1), (0, 0, 0))
        found = {}
        for coder in few_coders(120):
            for _ in range(10):
                signal = random_signal(rng, coder, rng.randrange(4))
                state = rng.choice(states(coder))
                row, error, prices = best_row(coder, signal, state=state)
                if rng.random() < 0.1:
                    row = random_row(rng, coder, len(signal))
                for _ in range(rng.randrange(3)):
                    prices = spoiled(rng, prices, wrong)
                told = verdict(coder, signal, row, prices, state)
                found["right" if type(told) is int else told[0]] = True
                if type(told) is int:
                    self.assertEqual(check_best(coder, signal, row, prices, state=state), told)
                else:
                    self.assert_fault(*told, prices, row, signal, coder, state)
        self.assertEqual(set(found), {"right", "prices", "row"})


class RefusedTest(Refusals, unittest.TestCase):
    CALLS = (
        lambda coder, signal, row, **named: error_of(coder, signal, row, **named),
        lambda coder, signal, row, **named: greedy_row(coder, signal, **named),
        lambda coder, signal, row, **named: best_row(coder, signal, **named),
        lambda coder, signal, row, **named: check_best(coder, signal, row, None, **named),
    )

    def test_no_coder(self):
        for thing in NO_CODERS:
            for call in self.CALLS:
                self.assert_refused(BadCoder, {}, call, thing, None, None, state=None)
        for call in self.CALLS:
            self.assert_refused(BadCoder, {"part": "low", "number": None}, call, replaced(TINY, 0, 1), None, None)

    def test_too_many_states(self):
        for coder in (coder_with(257), coder_with(129, 2), coder_with(17, 16), GREATEST):
            for call in self.CALLS[2:]:
                self.assert_refused(TooGreat, {"most": 256}, call, coder, None, None, state=None)
                self.assert_refused(TooGreat, {"most": 256}, call, coder, SIGNAL, (0, 0))
            self.assertEqual(len(greedy_row(coder, SIGNAL)), 2)
            self.assertTrue(error_of(coder, SIGNAL, (0, 0)) >= 0)

    def test_no_signal(self):
        for thing in NO_SIGNALS:
            for call in self.CALLS:
                self.assert_refused(OutOfPlace, {}, call, SMALL, thing, None, state=None)
            self.assert_refused(OutOfPlace, {}, greedy_row, SMALL, thing)
            self.assert_refused(OutOfPlace, {}, best_row, SMALL, thing)

    def test_no_row(self):
        for call in (self.CALLS[0], self.CALLS[3]):
            for thing in NO_TUPLES:
                self.assert_refused(BadRow, {"row": 0, "word": 0}, call, SMALL, SIGNAL, thing, state=None)
            for thing in (-1, 4, None, True, "0", HUGE, (0,)):
                self.assert_refused(BadRow, {"row": 1, "word": 1}, call, SMALL, SIGNAL, (thing,), state=None)
                self.assert_refused(BadRow, {"row": 1, "word": 2}, call, SMALL, SIGNAL, (0, thing), state=None)
                # A thing that is no code comes ahead of the number of codes.
                self.assert_refused(BadRow, {"row": 1, "word": 3}, call, SMALL, SIGNAL, (0, 0, thing), state=None)
            self.assert_refused(BadRow, {"row": 1, "word": 2001}, call, SMALL, SIGNAL, (0,) * 2001, state=None)

    def test_a_row_with_another_number_of_codes(self):
        for call in (self.CALLS[0], self.CALLS[3]):
            for row in ((), (0,), (0, 0, 0), (0,) * 64, (0,) * 2000):
                self.assert_refused(OutOfPlace, {}, call, SMALL, SIGNAL, row, state=None)
            self.assert_refused(OutOfPlace, {}, call, SMALL, (), (0,))
            self.assert_refused(OutOfPlace, {}, call, SMALL, (0,), ())

    def test_no_state(self):
        for call in self.CALLS:
            for thing in no_states(SMALL):
                self.assert_refused(OutOfPlace, {}, call, SMALL, SIGNAL, (0, 0), state=thing)
                self.assert_refused(OutOfPlace, {}, call, SMALL, (), (), state=thing)


if __name__ == "__main__":
    unittest.main()
