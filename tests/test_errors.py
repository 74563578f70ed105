"""The errors of the interface: stepsound/errors.py."""

import unittest

from stepsound.errors import BadByte, BadCoder, BadPaper, BadRow, NoSeam, Nothing, OutOfPlace, TooGreat
from tests.things import HUGE, NO_NUMBERS, WRONG_NUMBERS

FIELDS = {
    BadCoder: ("part", "number"),
    BadRow: ("row", "word"),
    BadPaper: ("part", "number"),
    BadByte: ("number",),
    TooGreat: ("most",),
}
TEXTS = (OutOfPlace, NoSeam, Nothing)
BASES = {
    BadCoder: ValueError, BadRow: ValueError, BadPaper: ValueError, BadByte: ValueError,
    OutOfPlace: ValueError, NoSeam: ValueError, TooGreat: OverflowError, Nothing: LookupError,
}


class Unwritable:
    def __repr__(self):
        raise RuntimeError("cannot be written")

    __str__ = __eq__ = __hash__ = __bool__ = __repr__


THINGS = NO_NUMBERS + WRONG_NUMBERS + (0, 1, HUGE, Unwritable())


class ErrorsTest(unittest.TestCase):
    def test_fields_by_position(self):
        for error, names in FIELDS.items():
            for thing in THINGS:
                things = [thing, object()][:len(names)]
                made = error(*things)
                for name, value in zip(names, things):
                    self.assertIs(getattr(made, name), value)

    def test_fields_by_name(self):
        for error, names in FIELDS.items():
            for thing in THINGS:
                things = dict(zip(names, [thing, object()]))
                made = error(**things)
                for name in names:
                    self.assertIs(getattr(made, name), things[name])

    def test_fields_partly_by_name(self):
        self.assertEqual(vars(BadCoder("steps", number=3)), {"part": "steps", "number": 3})
        self.assertEqual(vars(BadRow(3, word=0)), {"row": 3, "word": 0})
        self.assertEqual(vars(BadPaper("ranks", number=None)), {"part": "ranks", "number": None})

    def test_texts_of_anything(self):
        for error in TEXTS:
            for thing in THINGS:
                self.assertIsInstance(error(thing), error)
                self.assertIsInstance(error(text=thing), error)
            self.assertEqual(str(error("why")), "why")
            self.assertEqual(str(error(text="why")), "why")

    def test_wrong_numbers_of_arguments(self):
        for error in BASES:
            with self.assertRaises(TypeError):
                error()
            with self.assertRaises(TypeError):
                error(1, 2, 3)
            with self.assertRaises(TypeError):
                error(other=1)

    def test_straight_under_their_bases(self):
        for error, base in BASES.items():
            self.assertEqual(error.__bases__, (base,))

    def test_none_under_another(self):
        for one in BASES:
            for other in BASES:
                self.assertEqual(issubclass(one, other), one is other)

    def test_raised_and_caught(self):
        for error, base in BASES.items():
            made = error(*[None] * len(FIELDS.get(error, ("text",))))
            with self.assertRaises(base) as caught:
                raise made
            self.assertIs(caught.exception, made)


if __name__ == "__main__":
    unittest.main()
