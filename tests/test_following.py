"""Signals that can be followed: [1], [14]."""

import unittest
from itertools import product
from random import Random

from stepsound.errors import BadCoder, BadPaper, OutOfPlace, TooGreat
from stepsound.following import check_followed, followed
from stepsound.hearing import heard
from tests.search import few_coders, spoiled
from tests.things import CLIMB, DROPS, FADING, GREATEST, HUGE, LEAST, NO_CODERS, NO_PARTS, NO_SIGNALS, NO_TUPLES
from tests.things import Refusals, SMALL, STILL, TINY, WRONG_NUMBERS, coder_with, is_told_code, is_told_state, no_states
from tests.things import random_row, random_signal, replaced, states, told_row, told_step

START = (0, 0)
# CLIMB follows 1 within 1 with each of its samples from START, and none of those is ahead of 7.
SIGNAL = (1, 7)
SETS = ((START,), ((0, 0), (1, 0), (1, 1)))
NO_CODES = (-1, 3, 16, HUGE, None, True, False, "0", [0], (0,), 0.0)
CALLS = (
    lambda coder, signal, bound, **named: followed(coder, signal, bound, **named),
    lambda coder, signal, bound, **named: check_followed(coder, signal, bound, None, **named),
)


def led_within(coder, listed, number, bound):
    after = {told_step(coder, state, code)[1] for state in listed for code in range(len(coder[3]))}
    return {state for state in after if abs(state[0] - number) <= bound}


def told_sets(coder, signal, bound, state):
    """The sets of states behind 0, 1, 2 .. numbers, up to the first empty one."""
    found = [{state}]
    for number in signal:
        if found[-1]:
            found.append(led_within(coder, found[-1], number, bound))
    return found


def follows(coder, signal, bound, row, state):
    samples = told_row(coder, row, state)[0]
    return len(samples) == len(signal) and all(abs(one - two) <= bound for one, two in zip(signal, samples))


def verdict(coder, signal, bound, paper, state):
    """True or False, or the (part, number) of the first fault of a paper."""
    sizes = {"row": 2, "lost": 3}
    if type(paper) is not tuple or not paper or type(paper[0]) is not str or sizes.get(paper[0]) != len(paper):
        return "form", None
    if paper[0] == "row":
        row = paper[1]
        right = type(row) is tuple and all(is_told_code(coder, code) for code in row)
        return True if right and follows(coder, signal, bound, row, state) else ("row", None)
    last, sets = paper[1:]
    if type(last) is not int or not 0 <= last < len(signal) or type(sets) is not tuple or len(sets) != last + 1:
        return "sets", None
    for index, thing in enumerate(sets):
        if type(thing) is not tuple or not all(is_told_state(coder, one) for one in thing):
            return "sets", index
        if list(thing) != sorted(set(thing)) or index == 0 and thing != (state,):
            return "sets", index
    for index, thing in enumerate(sets):
        if led_within(coder, thing, signal[index], bound) - set((sets + ((),))[index + 1]):
            return "sets", index
    return False


class FollowedTest(unittest.TestCase):
    def test_told_papers(self):
        self.assertEqual(followed(CLIMB, (1, 5), 0), ("row", (1, 0)))
        self.assertEqual(followed(CLIMB, (1, 5), 3), ("row", (0, 0)))
        self.assertEqual(followed(coder=CLIMB, signal=SIGNAL, bound=1, state=START), ("lost", 1, SETS))
        self.assertEqual(followed(CLIMB, (3, 7), 1), ("lost", 0, SETS[:1]))
        self.assertIs(check_followed(CLIMB, (1, 5), 0, ("row", (1, 0))), True)
        self.assertIs(check_followed(coder=CLIMB, signal=SIGNAL, bound=1, paper=("lost", 1, SETS), state=START), False)

    def test_the_empty_signal(self):
        for coder in (CLIMB, SMALL, LEAST):
            self.assertEqual(followed(coder, (), 0), ("row", ()))
            self.assertIs(check_followed(coder, (), 80000, ("row", ())), True)

    def test_the_bounds(self):
        self.assertEqual(followed(SMALL, (40000, -40000), 80000), ("row", (0, 0)))
        self.assertEqual(followed(TINY, (40000,), 39999), ("row", (0,)))
        self.assertEqual(followed(TINY, (40000,), 39998), ("lost", 0, ((START,),)))
        self.assertEqual(followed(TINY, (-40000, -40000), 39999), ("row", (1, 1)))

    def test_against_all_rows(self):
        rng = Random(51)
        words = {"row": 0, "lost": 0}
        for coder in list(few_coders(200)) + [TINY, CLIMB, DROPS, STILL, LEAST, SMALL]:
            for many in range(1, 6 if len(coder[3]) == 2 else 4):
                signal = random_signal(rng, coder, many)
                state = rng.choice(states(coder))
                for bound in (0, 1, 2):
                    rows = [row for row in product(range(len(coder[3])), repeat=many)
                            if follows(coder, signal, bound, row, state)]
                    paper = followed(coder, signal, bound, state=state)
                    self.assertIs(paper.__class__, tuple)
                    if rows:
                        self.assertEqual(paper, ("row", rows[0]))
                    else:
                        sets = told_sets(coder, signal, bound, state)[:-1]
                        told = tuple(tuple(sorted(each)) for each in sets)
                        self.assertEqual(paper, ("lost", len(told) - 1, told))
                    self.assertEqual(verdict(coder, signal, bound, paper, state), bool(rows))
                    self.assertIs(check_followed(coder, signal, bound, paper, state=state), bool(rows))
                    words[paper[0]] += 1
        self.assertTrue(min(words.values()) > 300, words)

    def test_codes_that_lead_nowhere(self):
        # With the least code first the second number cannot be followed.
        self.assertEqual(followed(CLIMB, (1, 5), 1), ("row", (1, 0)))
        self.assertEqual(followed(CLIMB, (1, 2, 6), 0), ("row", (0, 1, 0)))

    def test_64_numbers(self):
        rng = Random(52)
        for coder in (coder_with(256), coder_with(16, 16), coder_with(128, 2, 9), FADING, SMALL):
            state = (coder[1], len(coder[2]) - 1)
            signal = heard(coder, random_row(rng, coder, 64), state=state)
            for bound in (0, 3):
                paper = followed(coder, signal, bound, state=state)
                self.assertEqual(paper[0], "row")
                self.assertTrue(follows(coder, signal, bound, paper[1], state))
                self.assertIs(check_followed(coder, signal, bound, paper, state=state), True)
            # The greatest distance from the last sample is farther than any code goes on.
            far = signal[:63] + (40000,)
            paper = followed(coder, far, 5, state=state)
            self.assertEqual((paper[:2], len(paper[2])), (("lost", 63), 64))
            self.assertIs(check_followed(coder, far, 5, paper, state=state), False)

    def test_nothing_is_kept(self):
        first = followed(CLIMB, SIGNAL, 1)
        with self.assertRaises(OutOfPlace):
            followed(CLIMB, SIGNAL, -1)
        self.assertEqual(followed(CLIMB, SIGNAL, 1), first)


class CheckTest(Refusals, unittest.TestCase):
    def assert_fault(self, part, number, paper, coder=CLIMB, signal=SIGNAL, bound=1, state=START):
        fields = {"part": part, "number": number}
        self.assert_refused(BadPaper, fields, check_followed, coder, signal, bound, paper, state=state)

    def test_the_form(self):
        for thing in NO_TUPLES:
            self.assert_fault("form", None, thing)
        for word in NO_PARTS + ("Row", "row ", "sets", b"row"):
            self.assert_fault("form", None, (word, (0, 0)))
            if not (type(word) is str and word == "lost"):
                self.assert_fault("form", None, (word, 1, SETS))
        for paper in ((), ("row",), ("lost",), ("row", 1, (0, 0)), ("lost", SETS), ["lost", 1, SETS],
                      ("lost", 1, SETS, ())):
            self.assert_fault("form", None, paper)

    def test_rows(self):
        for row in ((0, 0), (1, 0), (0, 1), (1, 1), (0, 2)):
            self.assertIs(check_followed(CLIMB, (1, 2), 3, ("row", row)), True)
        for thing in NO_TUPLES + ((), (0,), (0, 0, 0), (0,) * 3000, [1, 0], (0, 0), (2, 2)):
            self.assert_fault("row", None, ("row", thing), signal=(1, 5), bound=0)
        for code in NO_CODES:
            self.assert_fault("row", None, ("row", (1, code)), signal=(1, 5), bound=80000)
            self.assert_fault("row", None, ("row", (code, 0)), signal=(1, 5), bound=80000)
        # The first number is followed, but not the second one, and the other way round.
        self.assert_fault("row", None, ("row", (0, 0)), signal=(1, 5), bound=2)
        self.assert_fault("row", None, ("row", (0, 0)), signal=(4, 2), bound=2)
        self.assert_fault("row", None, ("row", (0,)), signal=())

    def test_lost_later_than_is_told(self):
        self.assertIs(check_followed(CLIMB, SIGNAL + (0,), 1, ("lost", 1, SETS)), False)
        self.assertIs(check_followed(CLIMB, SIGNAL + (0,), 1, ("lost", 2, SETS + ((),))), False)
        self.assertIs(check_followed(CLIMB, (3, 7, 0), 1, ("lost", 2, (SETS[0], (), ()))), False)

    def test_more_states_than_are_told(self):
        every = ((0, 0), (0, 1), (1, 0), (1, 1))
        self.assertIs(check_followed(CLIMB, SIGNAL, 1, ("lost", 1, (SETS[0], every))), False)
        # From (2, 1) the second number can be followed.
        self.assert_fault("sets", 1, ("lost", 1, (SETS[0], every + ((2, 1),))))

    def test_no_index_and_no_sets(self):
        for thing in WRONG_NUMBERS + (-1, 2, 64):
            self.assert_fault("sets", None, ("lost", thing, SETS))
        for index in (0, 1):
            for thing in NO_TUPLES + (list(SETS), ()):
                self.assert_fault("sets", None, ("lost", index, thing))
        self.assert_fault("sets", None, ("lost", 0, SETS))
        self.assert_fault("sets", None, ("lost", 1, SETS[:1]))
        self.assert_fault("sets", None, ("lost", 1, SETS + ((),)))
        self.assert_fault("sets", None, ("lost", 0, ((START,),)), signal=())
        self.assert_fault("sets", None, ("lost", 0, ()), signal=())

    def test_each_set_by_itself(self):
        for thing in NO_TUPLES + (list(SETS[1]), SETS[1][::-1], SETS[1] + SETS[1][2:], START, (START, START)):
            self.assert_fault("sets", 0, ("lost", 1, (thing, SETS[1])))
            self.assert_fault("sets", 1, ("lost", 1, (SETS[0], thing)))
        for thing in no_states(CLIMB):
            self.assert_fault("sets", 0, ("lost", 1, ((thing,), SETS[1])))
            self.assert_fault("sets", 1, ("lost", 1, (SETS[0], (thing,))))
            self.assert_fault("sets", 1, ("lost", 1, (SETS[0], SETS[1] + (thing,))))

    def test_the_first_set(self):
        for thing in ((), ((0, 1),), ((0, 0), (0, 1)), ((8, 1),)):
            self.assert_fault("sets", 0, ("lost", 1, (thing, SETS[1])))
        self.assert_fault("sets", 0, ("lost", 1, SETS), state=(0, 1))

    def test_where_codes_lead(self):
        for index in range(3):
            less = SETS[1][:index] + SETS[1][index + 1:]
            self.assert_fault("sets", 0, ("lost", 1, (SETS[0], less)))
        self.assert_fault("sets", 0, ("lost", 1, (SETS[0], ())))
        # A code leads on from the last set.
        self.assert_fault("sets", 0, ("lost", 0, SETS[:1]))
        self.assert_fault("sets", 1, ("lost", 1, SETS), signal=(1, 6))
        self.assert_fault("sets", 1, ("lost", 1, SETS), bound=2)

    def test_the_first_of_two_faults(self):
        # A later set that is wrong by itself comes ahead of an earlier one from which codes lead elsewhere.
        self.assert_fault("sets", 1, ("lost", 1, (SETS[0], (None,))))
        self.assert_fault("sets", 2, ("lost", 2, (SETS[0], (), None)), signal=SIGNAL + (0,))
        self.assert_fault("sets", 0, ("lost", 1, (SETS[1], None)))
        self.assert_fault("sets", 0, ("lost", 1, (SETS[0], ((0, 0), (8, 1)))))
        self.assert_fault("sets", None, ("lost", 2, (None,)))

    def test_spoiled_papers(self):
        rng = Random(54)
        wrong = NO_PARTS + ((0, 1), (0, 0), (0, 1, 0), ((0, 0),))
        found = {}
        for coder in few_coders(250):
            for _ in range(10):
                signal = random_signal(rng, coder, rng.randrange(5))
                state = rng.choice(states(coder))
                bound = rng.randrange(3)
                paper = followed(coder, signal, bound, state=state)
                for _ in range(rng.randrange(3)):
                    paper = spoiled(rng, paper, wrong)
                told = verdict(coder, signal, bound, paper, state)
                found[told if type(told) is bool else told[0]] = True
                if type(told) is bool:
                    self.assertIs(check_followed(coder, signal, bound, paper, state=state), told)
                else:
                    self.assert_fault(*told, paper, coder, signal, bound, state)
        self.assertEqual(set(found), {True, False, "form", "row", "sets"})


class RefusedTest(Refusals, unittest.TestCase):
    def test_no_coder(self):
        for thing in NO_CODERS:
            for call in CALLS:
                self.assert_refused(BadCoder, {}, call, thing, None, None, state=None)
        for call in CALLS:
            self.assert_refused(BadCoder, {"part": "high", "number": None}, call, replaced(TINY, 1, -1), None, None)

    def test_too_many_states(self):
        for coder in (coder_with(257), coder_with(129, 2), coder_with(17, 16), GREATEST):
            for call in CALLS:
                self.assert_refused(TooGreat, {"most": 256}, call, coder, None, None, state=None)
                self.assert_refused(TooGreat, {"most": 256}, call, coder, SIGNAL, 1)

    def test_no_signal(self):
        for thing in NO_SIGNALS:
            for call in CALLS:
                self.assert_refused(OutOfPlace, {}, call, SMALL, thing, 1)
                self.assert_refused(OutOfPlace, {}, call, SMALL, thing, None, state=None)

    def test_no_bound(self):
        for thing in WRONG_NUMBERS + (-1, 80001):
            for call in CALLS:
                self.assert_refused(OutOfPlace, {}, call, SMALL, SIGNAL, thing)
                self.assert_refused(OutOfPlace, {}, call, SMALL, (), thing, state=None)

    def test_no_state(self):
        for call in CALLS:
            for thing in no_states(SMALL):
                self.assert_refused(OutOfPlace, {}, call, SMALL, SIGNAL, 1, state=thing)
                self.assert_refused(OutOfPlace, {}, call, SMALL, (), 0, state=thing)


if __name__ == "__main__":
    unittest.main()
