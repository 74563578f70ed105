"""Damages of rows: [1], [9]."""

import unittest
from random import Random

from stepsound.damage import healed, received
from stepsound.errors import BadCoder, BadRow, OutOfPlace
from tests.things import CLIMB, DROPS, FADING, GREATEST, HUGE, LEAST, NO_CODERS, NO_PARTS, NO_TUPLES, Refusals, SMALL
from tests.things import STILL, TINY, WRONG_NUMBERS, coder_with, no_states, random_coders, random_row
from tests.things import states, told_row

CALLS = (received, healed)
ROW = (2, 2, 0, 3)


def damages_of(coder, row):
    """All damages of a row."""
    for index, code in enumerate(row):
        yield "lost", index
        yield "twice", index
        for other in range(len(coder[3])):
            if other != code:
                yield "other", index, other


def told_received(row, damage):
    kind, index = damage[:2]
    codes = list(row)
    if kind == "lost":
        del codes[index]
    elif kind == "twice":
        codes.insert(index, row[index])
    else:
        codes[index] = damage[2]
    return tuple(codes)


def told_healed(coder, row, damage, state):
    """The least number of codes behind the damage for which both last states are equal, by whole rows."""
    more = {"lost": -1, "twice": 1, "other": 0}[damage[0]]
    codes = told_received(row, damage)
    for many in range(len(row) - damage[1]):
        end = damage[1] + 1 + many
        if told_row(coder, row[:end], state)[1] == told_row(coder, codes[:end + more], state)[1]:
            return many
    return None


class ReceivedTest(unittest.TestCase):
    def test_each_form(self):
        for damage, codes in (
            (("lost", 0), (2, 0, 3)), (("lost", 2), (2, 2, 3)), (("lost", 3), (2, 2, 0)),
            (("twice", 0), (2, 2, 2, 0, 3)), (("twice", 2), (2, 2, 0, 0, 3)), (("twice", 3), (2, 2, 0, 3, 3)),
            (("other", 0, 1), (1, 2, 0, 3)), (("other", 2, 3), (2, 2, 3, 3)), (("other", 3, 0), (2, 2, 0, 0)),
        ):
            self.assertEqual(received(SMALL, ROW, damage), codes)
            self.assertEqual(received(coder=SMALL, row=ROW, damage=damage), codes)

    def test_a_row_of_one_code(self):
        self.assertEqual(received(TINY, (1,), ("lost", 0)), ())
        self.assertEqual(received(TINY, (1,), ("twice", 0)), (1, 1))
        self.assertEqual(received(TINY, (1,), ("other", 0, 0)), (0,))

    def test_all_damages(self):
        rng = Random(12)
        for coder in [SMALL, TINY, CLIMB, FADING, GREATEST] + list(random_coders(20)):
            row = random_row(rng, coder, 6)
            for damage in damages_of(coder, row):
                codes = received(coder, row, damage)
                self.assertEqual(codes, told_received(row, damage))
                self.assertIs(codes.__class__, tuple)

    def test_the_longest_row(self):
        row = random_row(Random(13), SMALL, 2000)
        for index in (0, 1000, 1999):
            self.assertEqual(received(SMALL, row, ("lost", index)), row[:index] + row[index + 1:])
            self.assertEqual(len(received(SMALL, row, ("twice", index))), 2001)


class HealedTest(unittest.TestCase):
    def test_at_once(self):
        # At the limit a code that goes up is as good as none.
        for damage in (("lost", 0), ("twice", 0)):
            self.assertEqual(healed(TINY, (0, 1, 0), damage, state=(1, 0)), 0)
        self.assertEqual(healed(TINY, (0,), ("lost", 0), state=(1, 0)), 0)
        self.assertEqual(healed(STILL, (0, 0), ("other", 0, 1)), 0)
        self.assertEqual(healed(LEAST, (0, 0, 0), ("twice", 2)), 0)

    def test_later(self):
        self.assertEqual(healed(TINY, (0, 0), ("lost", 0)), 1)
        self.assertEqual(healed(TINY, (0, 1, 0, 0), ("lost", 0)), 3)
        self.assertEqual(healed(TINY, (0, 1, 0, 0), ("lost", 0), state=(-1, 0)), 1)
        self.assertEqual(healed(TINY, (0, 0, 0, 1), ("other", 0, 1)), 2)
        self.assertEqual(healed(coder=TINY, row=(1, 0, 0, 0), damage=("other", 1, 1), state=(0, 0)), 2)

    def test_never(self):
        self.assertIsNone(healed(TINY, (0,), ("lost", 0)))
        self.assertIsNone(healed(TINY, (1, 0), ("lost", 1)))
        self.assertIsNone(healed(TINY, (0, 1) * 1000, ("lost", 0)))
        self.assertIsNone(healed(TINY, (0, 1), ("other", 1, 0)))

    def test_equal_levels_at_unlike_places_are_not_healed(self):
        coder = (0, 0, (1, 1), ((0, 1), (0, 0)), 0)
        self.assertIsNone(healed(coder, (0, 1, 1), ("lost", 0)))
        self.assertEqual(healed(coder, (0, 1, 0), ("lost", 0)), 2)

    def test_the_state_left_out_is_start(self):
        rng = Random(14)
        for coder in (SMALL, TINY, FADING):
            row = random_row(rng, coder, 9)
            for damage in damages_of(coder, row):
                self.assertEqual(healed(coder, row, damage), healed(coder, row, damage, state=(0, 0)))

    def test_all_damages_in_all_states(self):
        rng = Random(15)
        found = {}
        for coder in [SMALL, TINY, CLIMB, FADING, DROPS]:
            for state in states(coder):
                row = random_row(rng, coder, 7)
                for damage in damages_of(coder, row):
                    many = healed(coder, row, damage, state=state)
                    self.assertEqual(many, told_healed(coder, row, damage, state))
                    found[many] = True
        self.assertEqual(set(found) - {None}, set(range(7)))
        self.assertIn(None, found)

    def test_random_coders(self):
        rng = Random(16)
        for coder in list(random_coders(40)) + [GREATEST, coder_with(5000, 2)]:
            row = random_row(rng, coder, 6)
            for damage in damages_of(coder, row):
                self.assertEqual(healed(coder, row, damage), told_healed(coder, row, damage, (0, 0)))

    def test_the_last_code(self):
        for coder in (SMALL, TINY, FADING):
            for code in range(len(coder[3])):
                for state in states(coder):
                    for kind in ("lost", "twice"):
                        damage = (kind, 3)
                        row = (0, 1, 0, code)
                        self.assertEqual(healed(coder, row, damage, state=state),
                                         told_healed(coder, row, damage, state))

    def test_a_long_row(self):
        row = (0, 1) * 999 + (0, 0)
        self.assertEqual(healed(TINY, row, ("lost", 0)), 1999)
        self.assertEqual(healed(TINY, row, ("lost", 1000)), 999)

    def test_nothing_is_kept(self):
        damage = ("other", 1, 3)
        first = [call(SMALL, ROW, damage) for call in CALLS]
        for call in CALLS:
            with self.assertRaises(OutOfPlace):
                call(SMALL, ROW, ("other", 1, 2))
        self.assertEqual([call(SMALL, ROW, damage) for call in CALLS], first)


class RefusedTest(Refusals, unittest.TestCase):
    def assert_no_damage(self, damage, row=ROW, coder=SMALL):
        for call in CALLS:
            self.assert_refused(OutOfPlace, {}, call, coder, row, damage)
            self.assert_refused(OutOfPlace, {}, call, coder=coder, row=row, damage=damage)

    def test_no_coder(self):
        for call in CALLS:
            for thing in NO_CODERS:
                self.assert_refused(BadCoder, {}, call, thing, None, None)

    def test_no_row(self):
        for call in CALLS:
            for thing in NO_TUPLES:
                self.assert_refused(BadRow, {"row": 0, "word": 0}, call, SMALL, thing, None)
            for thing in WRONG_NUMBERS + (-1, 4):
                self.assert_refused(BadRow, {"row": 1, "word": 2}, call, SMALL, (0, thing, None), None)
            self.assert_refused(BadRow, {"row": 1, "word": 2001}, call, SMALL, (0,) * 2001, ("lost", 0))

    def test_no_tuple(self):
        for thing in NO_TUPLES + (["lost", 0], "lost", ("lost",)):
            self.assert_no_damage(thing)

    def test_no_kind(self):
        for word in NO_PARTS + ("Lost", "lost ", "", "heals", b"lost"):
            if not (type(word) is str and word == "lost"):
                for more in ((), (0,), (0, 1)):
                    self.assert_no_damage((word,) + more)
        self.assert_no_damage(())

    def test_too_few_and_too_many_things(self):
        for damage in (("lost",), ("lost", 0, 1), ("lost", 0, 0), ("twice",), ("twice", 0, 0), ("other",),
                       ("other", 0), ("other", 0, 1, 1), ("other", 0, 1, None), ("lost", 0, None)):
            self.assert_no_damage(damage)

    def test_indexes_beyond_the_row(self):
        for index in WRONG_NUMBERS + (-1, 4, 5, 2000, HUGE):
            self.assert_no_damage(("lost", index))
            self.assert_no_damage(("twice", index))
            self.assert_no_damage(("other", index, 1))
            self.assert_no_damage(("other", index, None))
        for index in (-1, 0, 1):
            self.assert_no_damage(("lost", index), row=())
            self.assert_no_damage(("twice", index), row=())
            self.assert_no_damage(("other", index, 1), row=())

    def test_codes_beyond_the_coder(self):
        for code in WRONG_NUMBERS + (-1, 4, 16):
            for index in range(4):
                self.assert_no_damage(("other", index, code))

    def test_the_same_code(self):
        for index, code in enumerate(ROW):
            self.assert_no_damage(("other", index, code))

    def test_no_state(self):
        for thing in no_states(SMALL):
            for damage in (("lost", 0), ("twice", 3), ("other", 1, 0), None):
                self.assert_refused(OutOfPlace, {}, healed, SMALL, ROW, damage, state=thing)
        with self.assertRaises(TypeError):
            healed(SMALL, ROW, ("lost", 0), (0, 0))


if __name__ == "__main__":
    unittest.main()
