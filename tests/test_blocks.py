"""Rows in blocks of bytes: [1], [19], and stepsound/blocks.py."""

import unittest
from random import Random

from stepsound.blocks import file_of, read_file, salvage, sample_in
from stepsound.errors import BadByte, BadCoder, BadRow, OutOfPlace, TooGreat
from tests.files import told_block, told_file, told_read
from tests.things import CLIMB, CODERS, DROPS, FADING, GREATEST, HUGE, LEAST, NO_CODERS, NO_TUPLES, Refusals, SMALL, TINY
from tests.things import WRONG_NUMBERS, no_states, random_coders, random_row, replaced, states, told_row

# Sixteen codes, and levels with the upper bytes 254, 255, 0 and 1.
BROAD = (-300, 300, (9, 99, 999), tuple((share, share // 9) for share in range(-16, 16, 2)), 5)
NO_BYTES = WRONG_NUMBERS + (-1, 256, 257, 65701)
# The example of [20]: the row (0, 1, 0) of TINY.
FIRST = (165, 90, 0, 0, 0, 2, 16, 18)
SECOND = (165, 90, 0, 0, 0, 1, 0, 1)


def random_files(rng, many):
    """(CODER, STATE, ROW, DATA), with blocks of unlike sizes."""
    for coder in list(random_coders(many)) + [SMALL, TINY, FADING, BROAD, CLIMB, DROPS, LEAST]:
        state = rng.randint(coder[0], coder[1]), rng.randrange(len(coder[2]))
        row = random_row(rng, coder, rng.randint(1, 14))
        sizes = [rng.randint(1, 6) for _ in range(15)]
        yield coder, state, row, told_file(coder, row, sizes, state)


def ends_of(data):
    """The list of the indexes behind the blocks of a file."""
    ends = []
    index = 0
    while index < len(data):
        index += 7 + (data[index + 5] + 1) // 2
        ends.append(index)
    return ends


class FileTest(Refusals, unittest.TestCase):
    def test_the_example(self):
        self.assertEqual(file_of(TINY, (0, 1, 0), 2), FIRST + SECOND)
        self.assertEqual(read_file(TINY, FIRST + SECOND), ((0, 0), (0, 1, 0)))

    def test_levels_below_0(self):
        self.assertEqual(file_of(TINY, (0,), 1, state=(-1, 0)), (165, 90, 255, 255, 0, 1, 0, 255))
        self.assertEqual(file_of(BROAD, (15,), 9, state=(-300, 2)), (165, 90, 254, 212, 2, 1, 15, 228))
        self.assertEqual(file_of(BROAD, (3, 10), 9, state=(300, 0)), (165, 90, 1, 44, 0, 2, 163, 210))
        self.assertEqual(file_of(GREATEST, (0,), 9, state=(-32768, 15))[2:5], (128, 0, 15))
        self.assertEqual(file_of(GREATEST, (0,), 9, state=(32767, 0))[2:5], (127, 255, 0))

    def test_no_codes(self):
        for coder in CODERS:
            self.assertEqual(file_of(coder, (), 1), ())
            self.assertEqual(file_of(coder, (), 255, state=(coder[1], 0)), ())
            self.assertEqual(read_file(coder, ()), ((0, 0), ()))

    def test_odd_and_even_numbers_of_codes(self):
        for many in range(1, 9):
            row = (15, 14, 13, 12, 11, 10, 9, 8)[:many]
            data = file_of(BROAD, row, 255)
            self.assertEqual(data[5:-1], (many,) + (239, 205, 171, 137)[:many // 2] + row[many - 1:] * (many % 2))
            self.assertEqual(data, told_block(row, (0, 0)))

    def test_all_sizes(self):
        rng = Random(9)
        row = random_row(rng, SMALL, 300)
        for size in range(1, 256):
            data = file_of(SMALL, row, size, state=(-3, 1))
            self.assertEqual(data, told_file(SMALL, row, [size], (-3, 1)))
            self.assertEqual(read_file(SMALL, data), ((-3, 1), row))

    def test_numbers_of_codes_next_to_a_size(self):
        for size in (1, 2, 3, 254, 255):
            for many in (size - 1, size, size + 1, 2 * size - 1, 2 * size, 2 * size + 1):
                row = random_row(Random(many), FADING, many)
                data = file_of(coder=FADING, row=row, size=size, state=(5, 2))
                self.assertEqual(data, told_file(FADING, row, [size], (5, 2)))
                self.assertEqual(read_file(coder=FADING, data=data), ((5, 2) if many else (0, 0), row))

    def test_random_coders(self):
        rng = Random(10)
        for coder in list(random_coders(60)) + [BROAD, GREATEST]:
            row, size = random_row(rng, coder, rng.randint(0, 40)), rng.randint(1, 9)
            data = file_of(coder, row, size)
            self.assertEqual(data, told_file(coder, row, [size], (0, 0)))
            self.assertIs(data.__class__, tuple)
            self.assertEqual(read_file(coder, data), ((0, 0), row))

    def test_each_state(self):
        for coder in (SMALL, TINY, CLIMB, FADING):
            for state in states(coder):
                self.assertEqual(file_of(coder, (1, 0, 1), 2, state=state), told_file(coder, (1, 0, 1), [2], state))
                self.assertEqual(read_file(coder, file_of(coder, (1,), 2, state=state)), (state, (1,)))

    def test_the_longest_row(self):
        row = random_row(Random(11), BROAD, 2000)
        for size in (1, 7, 255):
            data = file_of(BROAD, row, size, state=(1, 1))
            self.assertEqual(data, told_file(BROAD, row, [size], (1, 1)))
            self.assertEqual(read_file(BROAD, data), ((1, 1), row))

    def test_no_coder(self):
        for thing in NO_CODERS:
            self.assert_refused(BadCoder, {}, file_of, thing, None, None, state=None)
            for call in (read_file, salvage, lambda coder, data: sample_in(coder, data, None)):
                self.assert_refused(BadCoder, {}, call, thing, None)
                self.assert_refused(BadCoder, {}, call, coder=thing, data=FIRST)

    def test_no_row(self):
        for thing in NO_TUPLES:
            self.assert_refused(BadRow, {"row": 0, "word": 0}, file_of, TINY, thing, None, state=None)
        for thing in WRONG_NUMBERS + (-1, 2):
            self.assert_refused(BadRow, {"row": 1, "word": 2}, file_of, TINY, (0, thing), None, state=None)
        self.assert_refused(BadRow, {"row": 1, "word": 2001}, file_of, TINY, (0,) * 2001, 1)

    def test_no_size(self):
        for thing in WRONG_NUMBERS + (0, -1, 256, 257):
            for row in ((), (0,)):
                self.assert_refused(OutOfPlace, {}, file_of, TINY, row, thing)
                self.assert_refused(OutOfPlace, {}, file_of, coder=TINY, row=row, size=thing, state=None)
        self.assertEqual(len(file_of(TINY, (0,) * 255, 255)), 135)

    def test_no_state(self):
        for thing in no_states(SMALL):
            self.assert_refused(OutOfPlace, {}, file_of, SMALL, (0, 1), 1, state=thing)
        with self.assertRaises(TypeError):
            file_of(SMALL, (0, 1), 1, (0, 0))


class ReadTest(Refusals, unittest.TestCase):
    def assert_bad(self, coder, data, index):
        self.assert_refused(BadByte, {"number": index}, read_file, coder, data)

    def assert_as_told(self, coder, data):
        told = told_read(coder, data)
        if type(told) is tuple:
            self.assertEqual(read_file(coder, data), told)
        else:
            self.assert_bad(coder, data, told)

    def test_blocks_of_unlike_sizes(self):
        row = random_row(Random(12), SMALL, 600)
        for sizes in ((1, 255), (255, 1, 2), (3, 2, 1, 4), (7, 255, 9, 200, 100), (2, 2, 1)):
            data = told_file(SMALL, row, sizes, (7, 0))
            self.assertEqual(read_file(SMALL, data), ((7, 0), row))
        for coder, state, row, data in random_files(Random(13), 60):
            self.assertEqual(read_file(coder, data), (state, row))
            self.assertIs(read_file(coder, data)[1].__class__, tuple)

    def test_no_tuple(self):
        for thing in NO_TUPLES + (bytes(FIRST), list(FIRST), "", []):
            self.assert_bad(TINY, thing, None)
            self.assert_refused(BadByte, {"number": None}, salvage, TINY, thing)
            self.assert_refused(BadByte, {"number": None}, sample_in, TINY, thing, None)
            self.assert_refused(BadByte, {"number": None}, sample_in, coder=TINY, data=thing, number=0)

    def test_each_byte_wrong_in_turn(self):
        for coder, row, sizes in ((TINY, (0, 1, 0), [2]), (SMALL, (0, 3, 2, 2, 1), [2, 3]), (FADING, (4,) * 4, [3]),
                                  (BROAD, (14, 15, 3), [2]), (CLIMB, (2, 1), [1])):
            for state in ((0, 0), (coder[0], 0), (coder[1], len(coder[2]) - 1)):
                data = told_file(coder, row, sizes, state)
                for index in range(len(data)):
                    for byte in range(256):
                        self.assert_as_told(coder, replaced(data, index, byte))

    def test_what_is_no_byte(self):
        for coder, data in ((TINY, FIRST + SECOND), (SMALL, told_file(SMALL, (2, 0, 1), [2], (-5, 1)))):
            for index in range(len(data)):
                for thing in NO_BYTES:
                    self.assert_bad(coder, replaced(data, index, thing), index)
                # True and False are no bytes, though they are equal to 1 and 0.
                for thing in (bool(data[index]), float(data[index]), str(data[index]), (data[index],)):
                    self.assert_bad(coder, replaced(data, index, thing), index)

    def test_cut_off_at_each_length(self):
        for coder, state, row, data in random_files(Random(14), 20):
            ends = ends_of(data)
            for many in range(1, len(data)):
                if many in ends:
                    told = state, row[:sum(data[end + 5] for end in [0] + ends if end < many)]
                    self.assertEqual(read_file(coder, data[:many]), told)
                else:
                    self.assert_bad(coder, data[:many], many)
                self.assert_as_told(coder, data[:many])

    def test_something_behind_the_file(self):
        for coder, _, _, data in random_files(Random(15), 12):
            for more in ((0,), (165,), (165, 90), (90,), (None,), data, data[:5]):
                self.assert_as_told(coder, data + more)
                self.assert_as_told(coder, more + data)
        self.assert_bad(TINY, FIRST + SECOND + (165,), 17)
        self.assert_bad(TINY, FIRST + SECOND + (90,), 16)

    def test_the_mark(self):
        for data, index in (((0,), 0), ((90, 165), 0), ((165,), 1), ((165, 165), 1), ((165, 90), 2),
                            (FIRST + (0, 90), 8), (FIRST + (165, 91), 9), (FIRST + (165, None), 9)):
            self.assert_bad(TINY, data, index)

    def test_the_level(self):
        # From -300, that is (254, 212), to 300, that is (1, 44).
        for one, other, index in ((254, 212, 4), (254, 211, 3), (254, 0, 3), (254, 255, 4), (253, 255, 2), (255, 0, 4),
                                  (255, 255, 4), (0, 0, 4), (0, 255, 4), (1, 0, 4), (1, 44, 4), (1, 45, 3), (1, 255, 3),
                                  (2, 0, 2), (127, 0, 2), (128, 0, 2)):
            self.assert_bad(BROAD, (165, 90, one, other), index)
        for coder, least, most in (((0, 9) + TINY[2:], 0, 9), ((0, 0) + TINY[2:], 0, 0)):
            for byte in range(256):
                self.assert_bad(coder, (165, 90, byte, 0), 4 if byte == 0 else 2)
                self.assert_bad(coder, (165, 90, 0, byte), 4 if least <= byte <= most else 3)
        for byte in range(256):
            self.assert_bad(GREATEST, (165, 90, byte, 255 - byte), 4)

    def test_the_level_and_the_place_of_a_later_block(self):
        # The row (2, 2) leads START to (2, 1) and (6, 2).
        data = file_of(SMALL, (2,), 1)
        right = (165, 90, 0, 2, 1, 1, 2, 6)
        self.assertEqual(read_file(SMALL, data + right), ((0, 0), (2, 2)))
        for level, place, index in ((1, 1, 11), (3, 1, 11), (0, 1, 11), (2, 0, 12), (2, 2, 12), (1, 0, 11), (2, 3, 12)):
            self.assert_bad(SMALL, data + told_block((2,), (level, place)), index)
        self.assert_bad(SMALL, data + told_block((2,), (-1, 1)), 10)
        # By itself each of them is a file.
        self.assertEqual(read_file(SMALL, told_block((2,), (-1, 1))), ((-1, 1), (2,)))

    def test_the_place(self):
        for place in range(256):
            self.assert_bad(SMALL, (165, 90, 0, 0, place), 5 if place < 3 else 4)
            self.assert_bad(GREATEST, (165, 90, 0, 0, place), 5 if place < 16 else 4)

    def test_the_number(self):
        for many in range(256):
            self.assert_bad(SMALL, (165, 90, 0, 0, 0, many), 6 if many else 5)
        self.assertEqual(read_file(SMALL, told_block((1,) * 255, (0, 0))), ((0, 0), (1,) * 255))

    def test_codes_and_upper_bits(self):
        for byte in range(256):
            data = (165, 90, 0, 0, 0, 2, byte)
            self.assert_bad(SMALL, data, 7 if byte % 16 < 4 and byte // 16 < 4 else 6)
            data = (165, 90, 0, 0, 0, 3, 0, byte)
            self.assert_bad(SMALL, data, 8 if byte < 4 else 7)
            self.assert_bad(BROAD, (165, 90, 0, 0, 0, 2, byte), 7)
            self.assert_bad(BROAD, (165, 90, 0, 0, 0, 1, byte), 7 if byte < 16 else 6)

    def test_the_sum(self):
        for byte in range(256):
            if byte != 18:
                self.assert_bad(TINY, FIRST[:7] + (byte,), 7)
        # The sum of the bytes is 255 + 255 + 9 + 3 * 255 and some more.
        data = told_block((15,) * 9, (-1, 2))
        self.assertEqual((sum(data[2:-1]), data[-1]), (1556, 20))
        self.assertEqual(read_file(BROAD, data), ((-1, 2), (15,) * 9))

    def test_the_first_of_two_faults(self):
        rng = Random(16)
        for coder, _, _, data in random_files(rng, 40):
            for _ in range(20):
                for _ in range(2):
                    data = replaced(data, rng.randrange(len(data)), rng.choice((0, 1, 90, 165, 255, 256, None)))
                self.assert_as_told(coder, data)

    def test_2000_codes_and_2001(self):
        row = (0, 1) * 1000
        for size in (1, 16, 255):
            data = file_of(TINY, row, size)
            more = told_block((0,), (0, 0))
            self.assertEqual(read_file(TINY, data), ((0, 0), row))
            self.assert_refused(TooGreat, {"most": 2000}, read_file, TINY, data + more)
            self.assert_refused(TooGreat, {"most": 2000}, read_file, TINY, data + data + data)
            # A file with more codes is not right if anything in it is wrong.
            self.assert_bad(TINY, data + more[:7] + (3,), len(data) + 7)
            self.assert_bad(TINY, data + more[:7], len(data) + 7)
            self.assert_bad(TINY, data + data + (0,), 2 * len(data))
            self.assert_bad(TINY, data + told_block((0,), (1, 0)), len(data) + 3)


class SampleTest(Refusals, unittest.TestCase):
    def test_the_example(self):
        for number, sample in enumerate((1, 0, 1)):
            self.assertEqual(sample_in(TINY, FIRST + SECOND, number), sample)
            self.assertEqual(sample_in(coder=TINY, data=FIRST + SECOND, number=number), sample)

    def test_each_sample_of_each_block(self):
        for coder, state, row, data in random_files(Random(17), 60):
            samples = told_row(coder, row, state)[0]
            self.assertEqual(tuple([sample_in(coder, data, number) for number in range(len(row))]), samples)
            self.assert_refused(OutOfPlace, {}, sample_in, coder, data, len(row))

    def test_long_files(self):
        row = random_row(Random(18), FADING, 2000)
        samples = told_row(FADING, row, (3, 1))[0]
        for size in (1, 254, 255):
            data = file_of(FADING, row, size, state=(3, 1))
            for number in list(range(0, 2000, 37)) + [253, 254, 255, 256, 508, 509, 510, 1999]:
                self.assertEqual(sample_in(FADING, data, number), samples[number])
            self.assert_refused(OutOfPlace, {}, sample_in, FADING, data, 2000)
        # A file may have any number of codes.
        data = file_of(TINY, (0, 1) * 1000, 16) * 3
        self.assertEqual([sample_in(TINY, data, number) for number in (1999, 2000, 4001, 5998)], [0, 1, 0, 1])
        self.assert_refused(OutOfPlace, {}, sample_in, TINY, data, 6000)

    def test_no_number(self):
        for data in ((), FIRST, FIRST + SECOND):
            for thing in WRONG_NUMBERS + (-1, 3, 4, 255, HUGE):
                self.assert_refused(OutOfPlace, {}, sample_in, TINY, data, thing)
        self.assert_refused(OutOfPlace, {}, sample_in, TINY, (), 0)
        self.assert_refused(OutOfPlace, {}, sample_in, TINY, FIRST, 2)

    def test_it_ends_whatever_the_tuple(self):
        for data in ((0,) * 20, (-14,) * 20, (None,) * 9, FIRST[:5], (165, 90) * 9, (HUGE,) * 20):
            with self.assertRaises((BadByte, OutOfPlace)):
                sample_in(TINY, data, 5)


if __name__ == "__main__":
    unittest.main()
