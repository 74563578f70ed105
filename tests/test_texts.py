"""The texts of coders and rows: [21], [22]."""

import unittest
from random import Random

from stepsound.errors import BadCoder, BadRow
from stepsound.texts import coder_text, read_coder, read_row, row_text
from tests.things import CODERS, FADING, GREATEST, NO_CODERS, NO_TEXTS, NO_TUPLES, Refusals, SMALL, TINY
from tests.things import random_coders, random_row, replaced

SMALL_TEXT = "levels -8 7 0\nsteps 2 4 8\nmove 4 -1\nmove -4 -1\nmove 8 1\nmove -8 1"
SMALL_ROWS = tuple(SMALL_TEXT.split("\n"))

# No number by its form; the last ones are digits, minus signs and blanks of other scripts.
NO_NUMBERS = (
    "-0", "00", "+5", "-", "--5", "5-", "05", "-05", "000000", "100000", "-100000", "123456", "5.0", "5,", "0x1",
    "1_0", "x", "levels", "\t5", "5\t", "5\r", "5\x00", "~", "9" * 1000,
    "\u0665", "\u00b2", "\uff15", "\u22125", "5\u00a0",
)


class TextsTest(Refusals, unittest.TestCase):
    def assert_row(self, row, word, call, *args):
        self.assert_refused(BadRow, {"row": row, "word": word}, call, *args)


class CoderTextTest(TextsTest):
    def test_a_text(self):
        self.assertEqual(coder_text(SMALL), SMALL_TEXT)
        self.assertEqual(coder_text(coder=TINY), "levels -1 1 0\nsteps 1\nmove 8 0\nmove -8 0")
        self.assertEqual(coder_text(GREATEST), "levels -32768 32767 99\nsteps" + " 9999" * 16 + "\nmove 32 15" * 16)

    def test_read_again(self):
        for coder in CODERS + tuple(random_coders(100)):
            text = coder_text(coder)
            self.assertEqual(read_coder(text), coder)
            self.assertEqual(coder_text(read_coder(text=text)), text)
        self.assertIs(read_coder(SMALL_TEXT)[2].__class__, tuple)

    def test_no_coder(self):
        for thing in NO_CODERS:
            self.assert_refused(BadCoder, {}, coder_text, thing)
        self.assert_refused(BadCoder, {"part": "steps", "number": 1}, coder_text, replaced(SMALL, 2, (1, 0)))


class ReadCoderTest(TextsTest):
    def assert_rows(self, row, word, *rows):
        self.assert_row(row, word, read_coder, "\n".join(rows))

    def assert_row_at(self, row, word, text):
        """The row of this number, in its place in an otherwise right text."""
        self.assert_rows(row, word, *replaced(SMALL_ROWS, row - 1, text))

    def test_no_string(self):
        for thing in NO_TEXTS:
            self.assert_row(0, 0, read_coder, thing)
        self.assert_refused(BadRow, {"row": 0, "word": 0}, read_coder, text=None)

    def test_the_first_words(self):
        for row in (1, 2, 3, 6):
            rest = SMALL_ROWS[row - 1].partition(" ")[2]
            for name in ("level", "Levels", "levelss", "step", "moves", "Move", "7", "-", "\tmove", "\r"):
                self.assert_row_at(row, 1, f"{name} {rest}")
                self.assert_row_at(row, 1, name)
        self.assert_row_at(1, 1, SMALL_ROWS[1])
        self.assert_row_at(2, 1, SMALL_ROWS[0])
        self.assert_row_at(2, 1, SMALL_ROWS[2])
        self.assert_row_at(3, 1, SMALL_ROWS[1])

    def test_no_numbers(self):
        for word in NO_NUMBERS:
            for at in (2, 3, 4):
                self.assert_row_at(1, at, " ".join(replaced(("levels", "-8", "7", "0"), at - 1, word)))
            for at in (2, 3, 10):
                self.assert_row_at(2, at, " ".join(replaced(("steps",) + ("2",) * 9, at - 1, word)))
            for at in (2, 3):
                self.assert_row_at(3, at, " ".join(replaced(("move", "4", "-1"), at - 1, word)))
                self.assert_row_at(6, at, " ".join(replaced(("move", "4", "-1"), at - 1, word)))

    def test_words_that_lack(self):
        for row, texts in ((1, ("levels", "levels -8", "levels -8 7")), (2, ("steps",)), (3, ("move", "move 4"))):
            for text in texts:
                self.assert_row_at(row, text.count(" ") + 2, text)

    def test_words_too_many(self):
        for word in ("0", "7", "x", "-0", "100000"):
            self.assert_row_at(1, 5, f"levels -8 7 0 {word}")
            self.assert_row_at(1, 5, f"levels -8 7 0 {word} 1 2")
            self.assert_row_at(3, 4, f"move 4 -1 {word}")
            self.assert_row_at(6, 4, f"move 4 -1 {word} {word}")

    def test_the_first_wrong_word_in_a_row(self):
        self.assert_row_at(1, 2, "levels x y 0 0")
        self.assert_row_at(1, 3, "levels -8 00")
        self.assert_row_at(1, 1, "level x")
        self.assert_row_at(3, 3, "move 4 +1 1")
        self.assert_row_at(2, 3, "steps 2 x -0")

    def test_empty_words(self):
        for row in (1, 2, 3, 6):
            text = SMALL_ROWS[row - 1]
            for wrong in (" " + text, text + " ", text.replace(" ", "  ", 1), "  " + text, text + "  ", " ", "  "):
                self.assert_row_at(row, 0, wrong)
            self.assert_row_at(row, 0, "x" + text + " 00 ")
            self.assert_row_at(row, 0, text + " 0 0 0  x")
        self.assert_row_at(1, 0, "levels ")
        self.assert_row_at(2, 0, "steps ")

    def test_empty_rows(self):
        for row in (1, 2, 3, 6):
            self.assert_row_at(row, 0, "")
        self.assert_row(1, 0, read_coder, "")
        self.assert_row(1, 0, read_coder, "\n")
        self.assert_row(2, 0, read_coder, SMALL_ROWS[0] + "\n")

    def test_a_line_feed_at_either_end(self):
        self.assert_row(7, 0, read_coder, SMALL_TEXT + "\n")
        self.assert_row(7, 0, read_coder, SMALL_TEXT + "\n\n")
        self.assert_row(1, 0, read_coder, "\n" + SMALL_TEXT)

    def test_other_ends_of_rows(self):
        for sign in ("\r", "\v", "\f", "\x1c", "\x85", "\u2028"):
            self.assert_row(1, 4, read_coder, SMALL_TEXT.replace("\n", sign))
            self.assert_row(1, 4, read_coder, SMALL_TEXT.replace("\n", sign + "\n"))

    def test_less_than_two_rows(self):
        for row in ("levels -8 7 0", "levels 0 0 0", "levels 5 -5 1", "levels 99999 -99999 99999"):
            self.assert_row(2, 0, read_coder, row)
        self.assert_row(1, 4, read_coder, "levels -8 7")

    def test_the_first_wrong_row(self):
        self.assert_rows(2, 1, SMALL_ROWS[0], "x", "y", "")
        self.assert_rows(3, 3, SMALL_ROWS[0], SMALL_ROWS[1], "move 4 x", "move  4")
        self.assert_rows(1, 5, "levels 5 0 0 0", " ", "move")
        self.assert_rows(5, 2, *replaced(SMALL_ROWS, 4, "move"))

    def test_rows_ahead_of_parts(self):
        self.assert_rows(7, 2, "levels 5 -5 1", *SMALL_ROWS[1:], "move")
        self.assert_rows(18, 1, "levels 0 0 0", "steps" + " 1" * 17, *("move 1 1",) * 15, "moves")

    def test_numbers_that_are_no_part_of_a_coder(self):
        for row, text, part, number in (
            (1, "levels -32769 7 0", "low", None), (1, "levels 1 7 0", "low", None),
            (1, "levels 99999 7 0", "low", None),
            (1, "levels -8 32768 0", "high", None), (1, "levels -8 -1 0", "high", None),
            (1, "levels -8 -99999 0", "high", None), (1, "levels -8 7 1", "fade", None),
            (1, "levels -8 7 100", "fade", None), (1, "levels -8 7 -2", "fade", None),
            (2, "steps 0", "steps", 0), (2, "steps 2 -4 8", "steps", 1), (2, "steps 2 4 10000", "steps", 2),
            (2, "steps" + " 1" * 17, "steps", None), (2, "steps" + " 1" * 5000, "steps", None),
            (3, "move 33 0", "moves", 0), (6, "move 0 16", "moves", 3), (4, "move -33 -16", "moves", 1),
            (4, "move 0 99999", "moves", 1),
        ):
            wrong = "\n".join(replaced(SMALL_ROWS, row - 1, text))
            self.assert_refused(BadCoder, {"part": part, "number": number}, read_coder, wrong)

    def test_numbers_of_moves(self):
        for many in (2, 16):
            text = "levels 0 0 0\nsteps 1" + "\nmove 1 1" * many
            self.assertEqual(read_coder(text), (0, 0, (1,), ((1, 1),) * many, 0))
        for many in (0, 1, 17, 500):
            text = "levels 0 0 0\nsteps 1" + "\nmove 1 1" * many
            self.assert_refused(BadCoder, {"part": "moves", "number": None}, read_coder, text)

    def test_the_first_wrong_part(self):
        self.assert_refused(BadCoder, {"part": "low", "number": None}, read_coder, "levels 1 -1 1\nsteps 0\nmove 33 0")
        self.assert_refused(BadCoder, {"part": "steps", "number": 0}, read_coder, "levels 0 0 1\nsteps 0")


class RowTextTest(TextsTest):
    def test_a_text(self):
        self.assertEqual(row_text(SMALL, (2, 2, 0, 3)), "2 2 0 3")
        self.assertEqual(row_text(coder=GREATEST, row=(0, 10, 15)), "0 10 15")
        self.assertEqual(row_text(SMALL, ()), "")
        self.assertEqual(row_text(TINY, (1,)), "1")

    def test_read_again(self):
        rng = Random(7)
        for coder in CODERS + tuple(random_coders(50)):
            for many in (0, 1, 2, 50, 2000):
                row = random_row(rng, coder, many)
                text = row_text(coder, row)
                self.assertEqual(read_row(coder=coder, text=text), row)
                self.assertEqual(row_text(coder, read_row(coder, text)), text)

    def test_no_row(self):
        for thing in NO_TUPLES:
            self.assert_row(0, 0, row_text, SMALL, thing)
        self.assert_row(1, 3, row_text, SMALL, (0, 3, 4, None))
        self.assert_row(1, 1, row_text, SMALL, (True,))
        self.assert_row(1, 2001, row_text, SMALL, (0,) * 2001)
        self.assertEqual(row_text(SMALL, (3,) * 2000), " ".join("3" * 2000))

    def test_no_coder(self):
        for thing in NO_CODERS:
            self.assert_refused(BadCoder, {}, row_text, thing, None)
            self.assert_refused(BadCoder, {}, read_row, thing, None)


class ReadRowTest(TextsTest):
    def test_the_empty_text(self):
        for coder in CODERS:
            self.assertEqual(read_row(coder, ""), ())

    def test_no_string(self):
        for thing in NO_TEXTS:
            self.assert_row(0, 0, read_row, SMALL, thing)
        self.assert_refused(BadRow, {"row": 0, "word": 0}, read_row, coder=SMALL, text=None)

    def test_no_numbers(self):
        for word in NO_NUMBERS:
            for at in (1, 2, 9):
                self.assert_row(1, at, read_row, SMALL, " ".join(replaced(("3",) * 9, at - 1, word)))

    def test_no_codes(self):
        for coder in (SMALL, TINY, FADING):
            many = len(coder[3])
            self.assertEqual(read_row(coder, str(many - 1)), (many - 1,))
            for number in (many, many + 1, 16, 99999, -1, -99999):
                self.assert_row(1, 1, read_row, coder, str(number))
                self.assert_row(1, 3, read_row, coder, f"0 1 {number} {number}")
        self.assert_row(1, 1, read_row, GREATEST, "16")

    def test_empty_words(self):
        for text in (" ", "  ", " 0", "0 ", "0  1", " 0 1", "0 1 ", "x  y", "9 ", " x", "0 " * 2001):
            self.assert_row(1, 0, read_row, SMALL, text)

    def test_a_line_feed_stands_in_no_word(self):
        for text, word in (("\n", 1), ("0\n", 1), ("0 1\n", 2), ("\n0 1", 1), ("0 1\n2 3", 2), ("0 \n 1", 2)):
            self.assert_row(1, word, read_row, SMALL, text)
        self.assert_row(1, 0, read_row, SMALL, "0\n ")

    def test_the_most_words(self):
        self.assertEqual(read_row(SMALL, " ".join("3" * 2000)), (3,) * 2000)
        for many in (2001, 2002, 5000):
            self.assert_row(1, 2001, read_row, SMALL, " ".join("3" * many))
            self.assert_row(1, 2000, read_row, SMALL, " ".join("3" * 1999 + "4" * (many - 1999)))
        self.assert_row(1, 2001, read_row, SMALL, " ".join("3" * 2000) + " x")


if __name__ == "__main__":
    unittest.main()
