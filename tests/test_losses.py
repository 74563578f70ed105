"""The greatest loss of the greedy row: [1], [15]."""

import unittest
from itertools import product
from random import Random

from stepsound.errors import BadCoder, OutOfPlace, TooGreat
from stepsound.following import greatest_loss
from stepsound.speaking import best_row, error_of, greedy_row
from tests.search import few_coders
from tests.things import CLIMB, DROPS, FADING, GREATEST, LEAST, NO_CODERS, Refusals, SMALL, STILL, TINY, WRONG_NUMBERS
from tests.things import coder_with, no_states, replaced, states, told_row


def told_greatest(coder, many, state):
    """The greatest loss of all signals against all rows, and the first signal that has it."""
    rows = [told_row(coder, row, state)[0] for row in product(range(len(coder[3])), repeat=many)]
    losses = {}
    for signal in product(range(coder[0], coder[1] + 1), repeat=many):
        errors = [sum(abs(number - sample) for number, sample in zip(signal, row)) for row in sorted(set(rows))]
        greedy = error_of(coder, signal, greedy_row(coder, signal, state=state), state=state)
        losses.setdefault(greedy - min(errors), signal)
    return max(losses), losses[max(losses)]


class LossTest(Refusals, unittest.TestCase):
    def test_none_and_one_number(self):
        for coder in (TINY, CLIMB, DROPS, STILL, LEAST):
            for state in states(coder):
                self.assertEqual(greatest_loss(coder, 0, state=state), (0, ()))
                self.assertEqual(greatest_loss(coder, 1, state=state), (0, (coder[0],)))

    def test_told_losses(self):
        # The greedy row stays at 0, and so at the small step: 0, 1 are heard of 0, 5, and 1, 5 could be.
        self.assertEqual(greatest_loss(CLIMB, 2), (3, (0, 5)))
        self.assertEqual(greatest_loss(coder=TINY, many=6, state=(0, 0)), greatest_loss(TINY, 6))
        self.assertEqual(greatest_loss(LEAST, 6), (0, (0,) * 6))
        self.assertEqual(greatest_loss(STILL, 6, state=(1, 1)), (0, (-1,) * 6))

    def test_against_all_signals_and_rows(self):
        rng = Random(61)
        losses = {}
        for coder in list(few_coders(150)) + [TINY, CLIMB, DROPS, STILL, LEAST]:
            state = rng.choice(states(coder))
            for many in range(7):
                if ((coder[1] - coder[0] + 1) * len(coder[3])) ** many <= 4000:
                    told = greatest_loss(coder, many, state=state)
                    self.assertEqual(told, told_greatest(coder, many, state))
                    losses[told[0]] = True
        self.assertTrue(len(losses) > 5, losses)

    def test_six_numbers(self):
        for coder in (TINY, replaced(TINY, 2, (2,)), (0, 1, (8, 16), ((1, 1), (-1, -1), (0, 0)), 0)):
            for state in states(coder):
                self.assertEqual(greatest_loss(coder, 6, state=state), told_greatest(coder, 6, state))

    def test_the_signal_has_the_loss(self):
        for coder in list(few_coders(40)) + [coder_with(32), coder_with(16, 2), coder_with(2, 16), coder_with(32, 1, 3)]:
            for many in (5, 6):
                loss, signal = greatest_loss(coder, many)
                self.assertEqual(len(signal), many)
                self.assertTrue(all(coder[0] <= number <= coder[1] for number in signal))
                self.assertEqual(error_of(coder, signal, greedy_row(coder, signal)) - best_row(coder, signal)[1], loss)

    def test_the_most_states(self):
        # Sixteen moves, and each level may be a number of the signal.
        moves = tuple((share, turn) for share, turn in zip(range(-32, 32, 4), (1, -1, 0, 1) * 4))
        for coder in ((-16, 15, (9,), moves, 0), (-8, 7, (3, 9), moves, 0), (0, 1, tuple(range(1, 17)), moves, 0)):
            loss, signal = greatest_loss(coder, 6)
            self.assertEqual(error_of(coder, signal, greedy_row(coder, signal)) - best_row(coder, signal)[1], loss)
            rng = Random(62)
            for _ in range(200):
                other = tuple(rng.randint(coder[0], coder[1]) for _ in range(6))
                less = error_of(coder, other, greedy_row(coder, other)) - best_row(coder, other)[1]
                self.assertTrue(less < loss or less == loss and other >= signal)

    def test_no_coder(self):
        for thing in NO_CODERS:
            self.assert_refused(BadCoder, {}, greatest_loss, thing, None, state=None)

    def test_too_many_states(self):
        for coder in (coder_with(33), coder_with(17, 2), coder_with(3, 16), SMALL, FADING, GREATEST):
            self.assert_refused(TooGreat, {"most": 32}, greatest_loss, coder, 1)
            self.assert_refused(TooGreat, {"most": 32}, greatest_loss, coder, None, state=None)
        for coder in (coder_with(32), coder_with(16, 2), coder_with(2, 16)):
            self.assertEqual(greatest_loss(coder, 1)[0], 0)

    def test_no_number(self):
        for thing in WRONG_NUMBERS + (-1, 7, 64):
            self.assert_refused(OutOfPlace, {}, greatest_loss, TINY, thing)
            self.assert_refused(OutOfPlace, {}, greatest_loss, TINY, thing, state=None)

    def test_no_state(self):
        for thing in no_states(TINY):
            for many in (0, 2, 6):
                self.assert_refused(OutOfPlace, {}, greatest_loss, TINY, many, state=thing)

    def test_nothing_is_kept(self):
        first = greatest_loss(CLIMB, 3)
        self.assert_refused(OutOfPlace, {}, greatest_loss, CLIMB, 7)
        greatest_loss(TINY, 3)
        self.assertEqual(greatest_loss(CLIMB, 3), first)


if __name__ == "__main__":
    unittest.main()
