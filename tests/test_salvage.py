"""Blocks that can still be read: [20]."""

import unittest
from random import Random

from stepsound.blocks import file_of, read_file, salvage
from tests.files import told_block, told_file, told_salvage
from tests.test_blocks import BROAD, FIRST, NO_BYTES, SECOND, random_files
from tests.things import FADING, GREATEST, LEAST, SMALL, TINY, random_row, replaced, states, told_row

NOISE = ((), (165,), (90,), (165, 90), (165, 165), (165, 90, 0), (0,) * 9, (None,), (256, -1), FIRST[:7], SECOND[1:],
         (165, 90, 0, 0, 0, 0, 0), (165, 90, 0, 0, 0, 255), ((165, 90), "text", True))


class SalvageTest(unittest.TestCase):
    def test_the_example(self):
        told = [(0, (0, 0), (0, 1)), (8, (0, 0), (0,))]
        self.assertEqual(salvage(TINY, FIRST + SECOND), told)
        self.assertEqual(salvage(coder=TINY, data=FIRST + SECOND), told)
        self.assertIs(salvage(TINY, FIRST).__class__, list)

    def test_nothing_to_read(self):
        for coder in (TINY, SMALL, GREATEST, LEAST):
            for data in NOISE:
                self.assertEqual(salvage(coder, data), [])

    def test_whole_files(self):
        for coder, state, row, data in random_files(Random(19), 60):
            blocks = salvage(coder, data)
            self.assertEqual(blocks, told_salvage(coder, data))
            self.assertEqual(tuple([code for _, _, codes in blocks for code in codes]), row)
            self.assertEqual(blocks[0][:2], (0, state))
            for (_, begin, codes), (_, end, _) in zip(blocks, blocks[1:]):
                self.assertEqual(told_row(coder, codes, begin)[1], end)

    def test_each_state_by_itself(self):
        for coder in (SMALL, FADING):
            for state in states(coder):
                self.assertEqual(salvage(coder, told_block((1, 0, 1), state)), [(0, state, (1, 0, 1))])

    def test_blocks_that_do_not_go_on(self):
        # Whatever is ahead of a block, its level and place need not be those behind it.
        data = told_block((2,), (0, 0)) + told_block((2,), (-5, 2)) + told_block((0, 1), (7, 1))
        self.assertEqual(salvage(SMALL, data), [(0, (0, 0), (2,)), (8, (-5, 2), (2,)), (16, (7, 1), (0, 1))])

    def test_several_files_with_noise_between(self):
        rng = Random(20)
        for coder in (TINY, SMALL, FADING, BROAD):
            for _ in range(60):
                data = rng.choice(NOISE)
                for _ in range(rng.randint(1, 4)):
                    state = rng.choice(states(coder))
                    row = random_row(rng, coder, rng.randint(0, 9))
                    data += told_file(coder, row, [rng.randint(1, 4)], state) + rng.choice(NOISE)
                self.assertEqual(salvage(coder, data), told_salvage(coder, data))

    def test_noise_that_is_no_byte(self):
        for thing in NO_BYTES:
            data = (thing,) + FIRST + (thing, thing) + SECOND + (thing,)
            self.assertEqual(salvage(TINY, data), [(1, (0, 0), (0, 1)), (11, (0, 0), (0,))])

    def test_each_byte_wrong_in_turn(self):
        data = told_file(SMALL, (0, 3, 2, 2, 1), [2, 1], (-5, 1)) * 2
        for index in range(len(data)):
            for byte in (0, 1, 2, 90, 165, 251, 255, 256, None):
                spoiled = replaced(data, index, byte)
                self.assertEqual(salvage(SMALL, spoiled), told_salvage(SMALL, spoiled))

    def test_cut_off_at_each_length(self):
        data = told_file(SMALL, (0, 3, 2, 2, 1), [2, 1], (-5, 1))
        for many in range(len(data) + 1):
            self.assertEqual(salvage(SMALL, data[:many]), told_salvage(SMALL, data[:many]))
            self.assertEqual(salvage(SMALL, data[many:]), told_salvage(SMALL, data[many:]))

    def test_a_mark_that_stands_too_early(self):
        for ahead in ((165,), (165, 90), (165, 90, 0), (165, 90, 0, 0, 0, 9), FIRST[:6], FIRST[:7]):
            found = [(len(ahead), (0, 0), (0, 1))]
            self.assertEqual(salvage(TINY, ahead + FIRST), found)

    def test_a_block_within_a_block(self):
        inner = told_block((5, 10), (0, 0))
        codes = tuple([code for byte in inner for code in (byte % 16, byte // 16)])
        outer = told_block(codes, (7, 1))
        self.assertEqual(outer[6:-1], inner)
        # Behind a block that is listed the search goes on; where there is none, at the next index.
        self.assertEqual(salvage(BROAD, outer), [(0, (7, 1), codes)])
        self.assertEqual(salvage(BROAD, outer[:-1] + (outer[-1] ^ 1,)), [(6, (0, 0), (5, 10))])
        self.assertEqual(salvage(BROAD, outer[1:]), [(5, (0, 0), (5, 10))])
        self.assertEqual(salvage(BROAD, replaced(outer, 5, 0)), [(6, (0, 0), (5, 10))])

    def test_long_tuples(self):
        row = random_row(Random(21), FADING, 2000)
        data = file_of(FADING, row, 255)
        self.assertEqual(tuple([code for _, _, codes in salvage(FADING, data * 3) for code in codes]), row * 3)
        self.assertEqual(len(salvage(FADING, data + (165, 90) * 5000 + data)), 16)
        self.assertEqual(read_file(FADING, data), ((0, 0), row))

    def test_later_changes_to_a_list(self):
        blocks = salvage(TINY, FIRST)
        blocks.append(None)
        self.assertEqual(salvage(TINY, FIRST), [(0, (0, 0), (0, 1))])


if __name__ == "__main__":
    unittest.main()
