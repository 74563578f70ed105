"""Coders that sound alike, and classes: [1], [11], [12], [23]."""

import unittest
from itertools import product
from random import Random

from stepsound.alike import alike, check_alike, classes
from stepsound.errors import BadCoder, BadPaper, OutOfPlace, TooGreat
from stepsound.hearing import heard
from tests.search import few_coders, spoiled
from tests.things import CLIMB, DROPS, FADING, GREATEST, HUGE, LEAST, NO_CODERS, NO_PAIRS, NO_PARTS, NO_TUPLES
from tests.things import Refusals, SMALL, STILL, TINY, coder_with, is_told_code, is_told_state, no_states, replaced
from tests.things import states, told_row, told_step

START = (0, 0)
# TINY with the steps (1, 2), and with the step 2, in its place; and with the step 9, which goes from limit to limit.
MORE = replaced(TINY, 2, (1, 2))
TWO = replaced(TINY, 2, (2,))
WIDE = replaced(TINY, 2, (9,))
EQUAL = tuple((state, state) for state in states(TINY))
NO_CODES = (-1, 2, 16, HUGE, None, True, False, "0", [0], (0,), 0.0)
CALLS = (alike, lambda coder, other, one, two: check_alike(coder, other, one, two, None))


class Pairs:
    """All pairs of states of two coders, and after how many codes they are heard apart at the earliest."""

    def __init__(self, coder, other):
        self.codes = range(len(coder[3]))
        led = {state: [told_step(coder, state, code)[1] for code in self.codes] for state in states(coder)}
        led_other = {state: [told_step(other, state, code)[1] for code in self.codes] for state in states(other)}
        self.pairs = list(product(led, led_other))
        self.after = {(one, two): list(zip(led[one], led_other[two])) for one, two in self.pairs}
        self.apart = {}
        many = 0
        fresh = self.pairs
        while fresh:
            many += 1
            fresh = [pair for pair in self.pairs if pair not in self.apart and any(
                one[0] != two[0] or self.apart.get((one, two)) == many - 1 for one, two in self.after[pair])]
            self.apart.update(dict.fromkeys(fresh, many))

    def paper(self, pair):
        if pair in self.apart:
            return "apart", self.row(pair)
        found = {pair}
        size = 0
        while size < len(found):
            size = len(found)
            found |= {after for one in found for after in self.after[one]}
        return "alike", tuple(sorted(found))

    def row(self, pair):
        row = ()
        while True:
            many = self.apart[pair]
            near = [many == 1 if one[0] != two[0] else self.apart.get((one, two)) == many - 1
                    for one, two in self.after[pair]]
            row += (near.index(True),)
            pair = self.after[pair][row[-1]]
            if many == 1:
                return row


def verdict(coder, other, pair, paper):
    """True or False, or the (part, number) of the first fault of a paper."""
    if type(paper) is not tuple or len(paper) != 2 or type(paper[0]) is not str or paper[0] not in ("alike", "apart"):
        return "form", None
    word, things = paper
    if word == "apart":
        if type(things) is not tuple or not things or not all(is_told_code(coder, code) for code in things):
            return "row", None
        levels = [told_row(each, things, state)[0][-1] for each, state in zip((coder, other), pair)]
        return False if levels[0] != levels[1] else ("row", None)
    if type(things) is not tuple:
        return "couples", None
    for index, thing in enumerate(things):
        if type(thing) is not tuple or len(thing) != 2 or not is_told_state(coder, thing[0]):
            return "couples", index
        if not is_told_state(other, thing[1]) or index and not things[index - 1] < thing:
            return "couples", index
    for index, (one, two) in enumerate(things):
        for code in range(len(coder[3])):
            after = told_step(coder, one, code)[1], told_step(other, two, code)[1]
            if after not in things or after[0][0] != after[1][0]:
                return "couples", index
    return True if pair in things else ("couples", len(things))


def coders_side_by_side(many):
    """Pairs of coders with as many moves, some of them much alike."""
    rng = Random(31)
    coders = list(few_coders(many))
    for coder in coders:
        yield coder, rng.choice([other for other in coders if len(other[3]) == len(coder[3])])
        yield coder, coder
        yield coder, replaced(coder, 2, coder[2] + (8,))
        yield replaced(coder, 2, coder[2] * 2), coder
        yield coder, replaced(coder, 4, rng.choice((0, 2, 3)))
        yield replaced(coder, 2, (9,)), replaced(coder, 2, (99, 999))


class AlikeTest(unittest.TestCase):
    def test_the_examples(self):
        self.assertEqual(alike(TINY, MORE, START, START), ("alike", EQUAL))
        self.assertEqual(alike(MORE, TINY, START, START), ("alike", EQUAL))
        self.assertEqual(alike(coder=TINY, other=TWO, one=START, two=START), ("apart", (0, 1)))
        self.assertIs(check_alike(coder=TINY, other=MORE, one=START, two=START, paper=("alike", EQUAL)), True)
        self.assertIs(check_alike(TINY, TWO, START, START, ("apart", (0, 1))), False)

    def test_states_whose_own_levels_are_unlike(self):
        ends = (((-1, 0), (-1, 0)), ((1, 0), (1, 0)))
        self.assertEqual(alike(WIDE, WIDE, (-1, 0), (1, 0)), ("alike", (ends[0], ((-1, 0), (1, 0)), ends[1])))
        self.assertEqual(alike(WIDE, WIDE, START, (1, 0)), ("alike", (ends[0], ((0, 0), (1, 0)), ends[1])))
        self.assertEqual(alike(WIDE, WIDE, (-1, 0), (-1, 0)), ("alike", ends))

    def test_equal_levels_are_apart_by_their_places(self):
        self.assertEqual(alike(SMALL, SMALL, (0, 0), (0, 1)), ("apart", (0,)))
        self.assertEqual(alike(CLIMB, CLIMB, (4, 0), (4, 1)), ("apart", (0,)))

    def test_against_all_pairs(self):
        words = {"alike": 0, "apart": 0}
        for coder, other in coders_side_by_side(40):
            search = Pairs(coder, other)
            for one, two in search.pairs:
                paper = alike(coder, other, one, two)
                self.assertEqual(paper, search.paper((one, two)))
                self.assertIs(paper.__class__, tuple)
                self.assertIs(check_alike(coder, other, one, two, paper), paper[0] == "alike")
                words[paper[0]] += 1
        self.assertTrue(min(words.values()) > 500, words)

    def test_against_all_rows(self):
        for coder, other in coders_side_by_side(25):
            if len(coder[3]) > 2:
                continue
            for one, two in product(states(coder)[::2], states(other)):
                rows = [row for many in range(1, 7) for row in product(range(2), repeat=many)]
                unlike = [row for row in rows if heard(coder, row, state=one)[-1] != heard(other, row, state=two)[-1]]
                word, things = alike(coder, other, one, two)
                if unlike:
                    self.assertEqual((word, things), ("apart", unlike[0]))
                else:
                    self.assertTrue(word == "alike" or len(things) > 6)

    def test_three_places_and_a_fade(self):
        search = Pairs(FADING, replaced(FADING, 2, (1, 3, 8)))
        for one, two in search.pairs[::37]:
            self.assertEqual(alike(FADING, replaced(FADING, 2, (1, 3, 8)), one, two), search.paper((one, two)))

    def test_the_most_states(self):
        for coder in (coder_with(256), coder_with(16, 16), coder_with(256, fade=2)):
            for one, two in ((START, START), ((coder[0], 0), (coder[1], len(coder[2]) - 1))):
                paper = alike(coder, coder, one, two)
                self.assertIs(check_alike(coder, coder, one, two, paper), paper[0] == "alike")
        coder = (-128, 127, (8,), ((1, 0), (-1, 0)), 0)
        self.assertEqual(alike(coder, coder, START, START)[1], tuple((state, state) for state in states(coder)))
        # Only beyond the limit of the narrower coder something else is heard.
        self.assertEqual(alike(coder, replaced(coder, 1, 126), START, START), ("apart", (0,) * 127))
        self.assertEqual(alike(replaced(coder, 0, -127), coder, START, START), ("apart", (1,) * 128))

    def test_sixteen_moves(self):
        coder = (-7, 8, (1, 2, 3) * 5 + (9,), tuple((share, share) for share in range(-8, 8)), 0)
        for two in states(coder)[::5]:
            paper = alike(coder, coder, START, two)
            self.assertEqual(verdict(coder, coder, (START, two), paper), paper[0] == "alike")

    def test_nothing_is_kept(self):
        first = alike(SMALL, SMALL, (0, 0), (1, 0)), classes(SMALL)
        with self.assertRaises(OutOfPlace):
            alike(SMALL, SMALL, (0, 0), (9, 9))
        self.assertEqual((alike(SMALL, SMALL, (0, 0), (1, 0)), classes(SMALL)), first)


class ClassesTest(unittest.TestCase):
    def test_told_classes(self):
        self.assertEqual(classes(TINY), tuple((state,) for state in states(TINY)))
        self.assertEqual(classes(coder=WIDE), (tuple(states(WIDE)),))
        self.assertEqual(classes(LEAST), (((0, 0),),))
        # Places that are not heard do not part the states of a level.
        self.assertEqual(classes(STILL), (((-1, 0), (-1, 1)), ((0, 0), (0, 1)), ((1, 0), (1, 1))))
        # Both of the greatest levels are led to the greatest one.
        self.assertEqual(classes(DROPS), (((0, 0),), ((1, 0),), ((2, 0), (3, 0))))

    def test_the_order_is_that_of_the_first_states(self):
        # (0, 1) and (1, 0) are led alike; each class begins with its least state.
        coder = (0, 2, (8, 16), ((1, 0), (1, 0)), 0)
        self.assertEqual(classes(coder), (((0, 0),), ((0, 1), (1, 0), (1, 1), (2, 0), (2, 1))))

    def test_against_all_pairs(self):
        sizes = {}
        for coder in list(few_coders(120)) + [TINY, WIDE, MORE, DROPS, STILL, SMALL, CLIMB]:
            apart = Pairs(coder, coder).apart
            groups = {tuple(two for two in states(coder) if (one, two) not in apart) for one in states(coder)}
            self.assertEqual(classes(coder), tuple(sorted(groups)))
            sizes[len(groups)] = True
        self.assertTrue(len(sizes) > 9, sizes)

    def test_they_sound_alike(self):
        for coder in (SMALL, CLIMB, MORE):
            first = [group[0] for group in classes(coder)]
            for group in classes(coder):
                for state in group[::3]:
                    near = [one for one in first if alike(coder, coder, one, state)[0] == "alike"]
                    self.assertEqual(near, [group[0]])

    def test_the_most_states(self):
        for coder in (coder_with(256), coder_with(16, 16), coder_with(256, fade=2), coder_with(128, 2, 9)):
            told = classes(coder)
            self.assertEqual(sorted(state for group in told for state in group), states(coder))

    def test_states_that_are_apart_late(self):
        # The level stays until the last place, where it becomes the greatest one for good.
        coder = (0, 15, (1,) * 15 + (9999,), ((1, 1), (1, 1)), 0)
        self.assertEqual(alike(coder, coder, (3, 0), (3, 1)), ("apart", (0,) * 15))
        one = tuple(state for state in states(coder) if 15 in state)
        rest = tuple((state,) for state in states(coder) if 15 not in state)
        self.assertEqual(classes(coder), rest[:15] + (one,) + rest[15:])


class RefusedTest(Refusals, unittest.TestCase):
    def test_no_coder(self):
        for thing in NO_CODERS:
            for call in CALLS:
                self.assert_refused(BadCoder, {}, call, thing, None, None, None)
                self.assert_refused(BadCoder, {}, call, SMALL, thing, None, None)
            self.assert_refused(BadCoder, {}, classes, thing)
        wrong = replaced(GREATEST, 4, 1)
        for call in CALLS:
            self.assert_refused(BadCoder, {"part": "fade", "number": None}, call, wrong, None, START, START)
            self.assert_refused(BadCoder, {"part": "fade", "number": None}, call, TINY, wrong, START, START)

    def test_too_many_states(self):
        for coder in (coder_with(257), coder_with(129, 2), coder_with(17, 16), GREATEST):
            for call in CALLS:
                self.assert_refused(TooGreat, {"most": 256}, call, coder, SMALL, START, START)
                self.assert_refused(TooGreat, {"most": 256}, call, SMALL, coder, START, START)
                self.assert_refused(TooGreat, {"most": 256}, call, coder, None, None, None)
                # The second coder's number of states comes ahead of its number of moves.
                self.assert_refused(TooGreat, {"most": 256}, call, TINY, coder, None, None)
            self.assert_refused(TooGreat, {"most": 256}, classes, coder)

    def test_unlike_numbers_of_moves(self):
        for call in CALLS:
            self.assert_refused(OutOfPlace, {}, call, TINY, SMALL, START, START)
            self.assert_refused(OutOfPlace, {}, call, SMALL, CLIMB, None, None)

    def test_no_state(self):
        for call in CALLS:
            for thing in no_states(TINY):
                self.assert_refused(OutOfPlace, {}, call, TINY, MORE, thing, START)
                self.assert_refused(OutOfPlace, {}, call, MORE, TINY, START, thing)
            self.assert_refused(OutOfPlace, {}, call, TINY, MORE, (0, 1), START)
            self.assert_refused(OutOfPlace, {}, call, MORE, TINY, START, (0, 1))


class PaperTest(Refusals, unittest.TestCase):
    def assert_fault(self, part, number, paper, coder=TINY, other=MORE, one=START, two=START):
        fields = {"part": part, "number": number}
        self.assert_refused(BadPaper, fields, check_alike, coder, other, one, two, paper)

    def test_the_form(self):
        for thing in NO_TUPLES:
            self.assert_fault("form", None, thing)
        for word in NO_PARTS + ("Alike", "alike ", "always", b"alike"):
            self.assert_fault("form", None, (word, EQUAL))
        for paper in ((), ("alike",), ("apart",), ("alike", EQUAL, ()), ("apart", (0, 1), ()), ["alike", EQUAL]):
            self.assert_fault("form", None, paper)

    def test_more_pairs_than_are_told(self):
        more = EQUAL + (((1, 0), (1, 1)),)
        self.assert_fault("couples", 3, ("alike", more))
        # At the place 1 the second coder is limited at once, as WIDE is; so one pair more is right with it.
        coder, other = WIDE, replaced(TINY, 2, (9, 99))
        told = alike(coder, other, START, START)[1]
        self.assertEqual(len(told), 3)
        every = tuple((one, (two, 0)) for one in states(coder) for two in (-1, 0, 1))
        self.assertIs(check_alike(coder, other, START, START, ("alike", every)), True)
        self.assertIs(check_alike(coder, other, (1, 0), (-1, 0), ("alike", every)), True)

    def test_a_longer_row_than_is_told(self):
        for row in ((0, 1), (1, 0), (0, 0, 1), (1,) * 2999 + (0,), (0, 1, 0, 1)):
            told = heard(TINY, row[-2000:])[-1], heard(TWO, row[-2000:])[-1]
            paper = ("apart", row)
            self.assertNotEqual(*told)
            self.assertIs(check_alike(TINY, TWO, START, START, paper), False)

    def test_no_tuple(self):
        for thing in NO_TUPLES + (list(EQUAL),):
            self.assert_fault("couples", None, ("alike", thing))
            self.assert_fault("row", None, ("apart", thing), other=TWO)

    def test_each_pair(self):
        wrong = NO_PAIRS + tuple((thing, START) for thing in no_states(TINY))
        wrong += tuple((START, thing) for thing in no_states(MORE)) + (list(EQUAL[1]), EQUAL[1] + (START,))
        for thing in wrong:
            for index in range(3):
                self.assert_fault("couples", index, ("alike", replaced(EQUAL, index, thing)))
            self.assert_fault("couples", 3, ("alike", EQUAL + (thing,)))
        # Each of the two states is one of its own coder.
        self.assert_fault("couples", 0, ("alike", (((0, 1), START),)))
        self.assert_fault("couples", 0, ("alike", ((START, (0, 1)),)), coder=MORE, other=TINY)

    def test_the_order(self):
        self.assert_fault("couples", 1, ("alike", EQUAL[:1] + EQUAL))
        self.assert_fault("couples", 3, ("alike", EQUAL + EQUAL[2:]))
        self.assert_fault("couples", 1, ("alike", EQUAL[::-1]))
        self.assert_fault("couples", 2, ("alike", (EQUAL[0], EQUAL[2], EQUAL[1])))

    def test_where_codes_lead(self):
        # Not listed, with the index of the pair from which the code leads.
        self.assert_fault("couples", 0, ("alike", EQUAL[:1]))
        self.assert_fault("couples", 1, ("alike", EQUAL[:2]))
        self.assert_fault("couples", 0, ("alike", EQUAL[1:2]))
        self.assert_fault("couples", 0, ("alike", (EQUAL[0], EQUAL[2])))
        # Listed, but with unequal levels.
        every = tuple(product(states(TINY), states(TWO)))
        self.assert_fault("couples", 0, ("alike", every), other=TWO)
        coder = (0, 2, (8,), ((1, 0), (0, 0)), 0)
        up = ((START, START), ((1, 0), (1, 0)), ((2, 0), (1, 0)))
        self.assert_fault("couples", 1, ("alike", up), coder=coder, other=replaced(coder, 1, 1))
        # Unequal levels of a pair itself are no fault, if no code leads to it.
        self.assertIs(check_alike(WIDE, WIDE, START, START, alike(WIDE, WIDE, START, START)), True)
        odd = (((-1, 0), (-1, 0)), ((-1, 0), (1, 0)), ((0, 0), (0, 0)), ((1, 0), (-1, 0)), ((1, 0), (1, 0)))
        self.assertIs(check_alike(WIDE, WIDE, START, START, ("alike", odd)), True)

    def test_the_states_are_listed(self):
        ends = (((-1, 0), (-1, 0)), ((1, 0), (1, 0)))
        self.assert_fault("couples", 2, ("alike", ends), coder=WIDE, other=WIDE)
        self.assert_fault("couples", 2, ("alike", ends), coder=WIDE, other=WIDE, one=(1, 0), two=(-1, 0))
        self.assert_fault("couples", 0, ("alike", ()))
        self.assertIs(check_alike(WIDE, WIDE, (1, 0), (1, 0), ("alike", ends)), True)

    def test_the_first_of_two_faults(self):
        # A later thing that is no pair comes ahead of a pair that is led elsewhere.
        self.assert_fault("couples", 1, ("alike", (EQUAL[0], None)))
        self.assert_fault("couples", 2, ("alike", (EQUAL[0], EQUAL[1], EQUAL[0])))
        # So does a pair that is led elsewhere ahead of the states that are not listed.
        self.assert_fault("couples", 0, ("alike", EQUAL[:1]), one=(1, 0), two=(1, 0))
        self.assert_fault("couples", 0, ("alike", (None, EQUAL[0], None)))

    def test_the_row(self):
        self.assert_fault("row", None, ("apart", ()), other=TWO)
        for row in ((0,), (1,), (0, 0), (1, 1), (0, 1, 1), (0, 1, 0, 0), (0,) * 3000):
            self.assert_fault("row", None, ("apart", row), other=TWO)
        for code in NO_CODES:
            self.assert_fault("row", None, ("apart", (0, 1, code)), other=TWO)
            self.assert_fault("row", None, ("apart", (code, 1)), other=TWO)
        for row in ((), (0,), (0, 1), (1, 0, 1)):
            self.assert_fault("row", None, ("apart", row))

    def test_a_paper_of_the_wrong_word(self):
        self.assert_fault("row", None, ("apart", EQUAL))
        self.assert_fault("couples", 0, ("alike", (0, 1)), other=TWO)

    def test_spoiled_papers(self):
        rng = Random(32)
        wrong = NO_PARTS + ((0, 1), (0, 0), (-1, 0), ((0, 0), (0, 0)))
        found = {}
        for coder, other in coders_side_by_side(30):
            for _ in range(12):
                pair = rng.choice(states(coder)), rng.choice(states(other))
                paper = alike(coder, other, *pair)
                for _ in range(rng.randrange(3)):
                    paper = spoiled(rng, paper, wrong)
                told = verdict(coder, other, pair, paper)
                found[told if type(told) is bool else told[0]] = True
                if type(told) is bool:
                    self.assertIs(check_alike(coder, other, *pair, paper), told)
                else:
                    self.assert_fault(*told, paper, coder, other, *pair)
        self.assertEqual(set(found), {True, False, "form", "couples", "row"})


if __name__ == "__main__":
    unittest.main()
