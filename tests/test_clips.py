"""Clips: [1], [16], [17], and stepsound/clips.py."""

import unittest
from operator import add, contains, iadd, mul
from random import Random

from stepsound.clips import Clip
from stepsound.desk import Desk
from stepsound.errors import BadCoder, BadRow, NoSeam, OutOfPlace, TooGreat
from stepsound.hearing import heard, last_state
from stepsound.seams import seam
from tests.search import few_coders, told_seam
from tests.things import CODERS, DROPS, FADING, GREATEST, HUGE, NO_CLIPS, NO_CODERS, NO_TUPLES, Refusals, SMALL
from tests.things import STILL, TINY, WRONG_NUMBERS, coder_with, no_states, random_coders, random_row, states, told_row

ROW = (2, 2, 0, 3)


def told(clip):
    return clip.coder, clip.codes, clip.state


def random_clips(many):
    """Clips of every shape, always the same ones."""
    rng = Random(5)
    for coder in list(random_coders(many)) + [SMALL, TINY, FADING]:
        state = rng.randint(coder[0], coder[1]), rng.randrange(len(coder[2]))
        yield Clip(coder, random_row(rng, coder, rng.randint(0, 12)), state=state)


class MadeTest(Refusals, unittest.TestCase):
    def test_what_it_was_made_of(self):
        clip = Clip(SMALL, ROW, state=(6, 2))
        self.assertEqual(told(clip), (SMALL, ROW, (6, 2)))
        self.assertEqual(told(Clip(coder=TINY, codes=(0, 1), state=(1, 0))), (TINY, (0, 1), (1, 0)))

    def test_what_is_left_out(self):
        for coder in CODERS:
            self.assertEqual(told(Clip(coder)), (coder, (), (0, 0)))
            self.assertEqual(told(Clip(coder, (1, 0))), (coder, (1, 0), (0, 0)))
            self.assertEqual(told(Clip(coder, state=(0, 0))), (coder, (), (0, 0)))
        self.assertEqual(told(Clip(TINY, state=(1, 0))), (TINY, (), (1, 0)))

    def test_the_longest_row(self):
        row = random_row(Random(6), FADING, 2000)
        clip = Clip(FADING, row)
        self.assertEqual((clip.codes, len(clip)), (row, 2000))
        self.assertEqual((clip.heard(), clip.last()), told_row(FADING, row, (0, 0)))

    def test_no_coder(self):
        for thing in NO_CODERS:
            self.assert_refused(BadCoder, {}, Clip, thing)
            self.assert_refused(BadCoder, {}, Clip, thing, None, state=None)
            self.assert_refused(BadCoder, {}, Clip, coder=thing, codes=(0, 1), state=(0, 0))
        self.assert_refused(BadCoder, {"part": "fade", "number": None}, Clip, SMALL[:4] + (1,), (9,))

    def test_no_row(self):
        for thing in NO_TUPLES:
            self.assert_refused(BadRow, {"row": 0, "word": 0}, Clip, SMALL, thing, state=None)
        for thing in WRONG_NUMBERS + (-1, 4):
            self.assert_refused(BadRow, {"row": 1, "word": 3}, Clip, SMALL, (0, 3, thing, None), state=None)
        self.assert_refused(BadRow, {"row": 1, "word": 2001}, Clip, SMALL, (0,) * 2001, state=None)

    def test_no_state(self):
        for thing in no_states(SMALL):
            self.assert_refused(OutOfPlace, {}, Clip, SMALL, ROW, state=thing)
            self.assert_refused(OutOfPlace, {}, Clip, SMALL, state=thing)
        with self.assertRaises(TypeError):
            Clip(SMALL, ROW, (0, 0))


class HeardTest(unittest.TestCase):
    def test_the_example(self):
        clip = Clip(SMALL, ROW)
        self.assertEqual((clip.heard(), clip.last(), len(clip)), ((2, 6, 7, 3), (3, 2), 4))

    def test_random_clips(self):
        for clip in random_clips(60):
            samples, last = told_row(*told(clip))
            self.assertEqual((clip.heard(), clip.last(), len(clip)), (samples, last, len(samples)))
            self.assertEqual(clip.heard(), heard(clip.coder, clip.codes, state=clip.state))
            self.assertEqual(clip.last(), last_state(clip.coder, clip.codes, state=clip.state))
            self.assertIs(clip.heard().__class__, tuple)

    def test_no_codes(self):
        for state in states(SMALL):
            clip = Clip(SMALL, (), state=state)
            self.assertEqual((clip.heard(), clip.last(), len(clip)), ((), state, 0))

    def test_samples_in_a_clip(self):
        for clip in random_clips(40):
            samples = told_row(*told(clip))[0]
            for sample in range(clip.coder[0] - 2, clip.coder[1] + 3):
                self.assertIs(contains(clip, sample), sample in samples)
        # The level in which a clip begins is not heard.
        self.assertIs(5 in Clip(SMALL, (2,), state=(5, 0)), False)
        self.assertIs(7 in Clip(SMALL, (2,), state=(5, 0)), True)
        self.assertIs(0 in Clip(SMALL), False)

    def test_no_integers_in_a_clip(self):
        clip = Clip(TINY, (0, 1, 1))
        self.assertEqual(clip.heard(), (1, 0, -1))
        for thing in WRONG_NUMBERS:
            self.assertIs(thing in clip, False)
        for thing in (True, False, 1.0, 0.0, (1,), "1", HUGE, -2, 2):
            self.assertIs(contains(clip, thing), False)


class StretchTest(Refusals, unittest.TestCase):
    def test_a_stretch(self):
        clip = Clip(SMALL, ROW)
        self.assertEqual(told(clip.stretch(1, 3)), (SMALL, (2, 0), (2, 1)))
        self.assertEqual(told(clip.stretch(begin=2, end=4)), (SMALL, (0, 3), (6, 2)))
        self.assertEqual(told(clip.stretch(0, 0)), (SMALL, (), (0, 0)))
        self.assertEqual(told(clip.stretch(4, 4)), (SMALL, (), (3, 2)))
        self.assertEqual(clip.stretch(0, 4), clip)
        self.assertEqual(told(Clip(TINY, (), state=(1, 0)).stretch(0, 0)), (TINY, (), (1, 0)))

    def test_all_stretches(self):
        for clip in random_clips(40):
            for begin in range(len(clip) + 1):
                for end in range(begin, len(clip) + 1):
                    stretch = clip.stretch(begin, end)
                    state = told_row(clip.coder, clip.codes[:begin], clip.state)[1]
                    self.assertEqual(told(stretch), (clip.coder, clip.codes[begin:end], state))
                    self.assertEqual(stretch.heard(), clip.heard()[begin:end])
                    self.assertIs(stretch.__class__, Clip)

    def test_a_stretch_goes_on_by_itself(self):
        clip = Clip(SMALL, ROW)
        stretch = clip.stretch(0, 4)
        stretch += (1,)
        self.assertEqual((clip.codes, stretch.codes), (ROW, ROW + (1,)))

    def test_the_longest_clip(self):
        clip = Clip(SMALL, (2, 1) * 1000)
        self.assertEqual(clip.stretch(0, 2000), clip)
        self.assertEqual(clip.stretch(1999, 2000).codes, (1,))
        self.assert_refused(OutOfPlace, {}, clip.stretch, 0, 2001)

    def test_beyond_the_clip(self):
        clip = Clip(SMALL, ROW)
        for begin, end in ((-1, 2), (-1, -1), (0, -1), (0, 5), (4, 5), (5, 5), (5, 4), (3, 2), (1, 0), (4, 0),
                           (0, HUGE), (-HUGE, 1), (HUGE, HUGE), (HUGE, 0)):
            self.assert_refused(OutOfPlace, {}, clip.stretch, begin, end)
        for begin, end in ((0, 1), (1, 1), (-1, 0), (1, 0)):
            self.assert_refused(OutOfPlace, {}, Clip(SMALL).stretch, begin, end)

    def test_no_indexes(self):
        clip = Clip(SMALL, ROW)
        for thing in WRONG_NUMBERS:
            for other in (0, 1, 4, thing, None):
                self.assert_refused(OutOfPlace, {}, clip.stretch, thing, other)
                self.assert_refused(OutOfPlace, {}, clip.stretch, begin=other, end=thing)
        self.assertEqual(told(clip), (SMALL, ROW, (0, 0)))


class EqualTest(Refusals, unittest.TestCase):
    def test_equal_and_unlike_clips(self):
        clips = [Clip(coder, row, state=state) for coder in (TINY, TINY[:4] + (2,), SMALL)
                 for row in ((), (0,), (0, 1), (1, 0)) for state in ((0, 0), (-1, 0))]
        for clip in clips:
            for other in clips:
                same = told(clip) == told(other)
                self.assertIs(clip == other, same)
                self.assertIs(clip != other, not same)

    def test_equal_things_of_other_names(self):
        clip = Clip(SMALL, ROW, state=(1, 1))
        other = Clip(tuple(list(SMALL)), tuple(list(ROW)), state=tuple([1, 1]))
        self.assertIs(clip == other, True)
        self.assertIs(clip == clip, True)
        self.assertIs(clip == clip.copy(), True)

    def test_clips_that_are_heard_alike_are_unlike(self):
        self.assertIs(Clip(TINY, (0,), state=(1, 0)) == Clip(TINY, (0,), state=(0, 0)), False)
        self.assertIs(Clip(TINY) == Clip(TINY[:2] + ((2,),) + TINY[3:]), False)

    def test_things_of_other_kinds(self):
        for clip in (Clip(TINY), Clip(SMALL, ROW)):
            for thing in NO_CLIPS + (told(clip), clip.codes, Desk(clip)):
                self.assertIs(clip == thing, False)
                self.assertIs(clip != thing, True)

    def test_begins(self):
        clip = Clip(SMALL, ROW, state=(6, 2))
        for many in range(5):
            self.assertIs(clip.begins(Clip(SMALL, ROW[:many], state=(6, 2))), True)
            self.assertIs(clip.begins(other=clip.stretch(0, many)), True)
            self.assertIs(clip.begins(Clip(SMALL, ROW[:many])), False)
            self.assertIs(clip.begins(Clip(SMALL, ROW[:many] + (1,), state=(6, 2))), False)
            self.assertIs(clip.begins(Clip(SMALL[:4] + (2,), ROW[:many], state=(6, 2))), False)
        self.assertIs(clip.begins(Clip(SMALL, ROW + ROW, state=(6, 2))), False)
        self.assertIs(Clip(SMALL).begins(Clip(SMALL)), True)
        # A row that stands further on is not its beginning.
        self.assertIs(clip.begins(Clip(SMALL, (0, 3), state=(6, 2))), False)

    def test_begins_with_no_clip(self):
        for clip in (Clip(TINY), Clip(SMALL, ROW)):
            for thing in NO_CLIPS:
                self.assert_refused(OutOfPlace, {}, clip.begins, thing)
                self.assert_refused(OutOfPlace, {}, clip.begins, other=thing)


class CopyTest(unittest.TestCase):
    def test_copies(self):
        for clip in random_clips(20):
            copy = clip.copy()
            self.assertEqual(told(copy), told(clip))
            self.assertIsNot(copy, clip)
            self.assertIs(copy.__class__, Clip)

    def test_copies_go_on_by_themselves(self):
        clip = Clip(SMALL, ROW, state=(1, 0))
        copy = clip.copy()
        clip += (1,)
        self.assertEqual((clip.codes, copy.codes), (ROW + (1,), ROW))
        copy += (0, 0)
        other = copy.copy()
        copy += (3,)
        self.assertEqual((clip.codes, copy.codes, other.codes), (ROW + (1,), ROW + (0, 0, 3), ROW + (0, 0)))
        self.assertEqual(copy.state, (1, 0))


class AddTest(Refusals, unittest.TestCase):
    def test_a_seam_between(self):
        # The clip of [16]: from (-1, 0), the row (0,) is heard as 0.
        whole = Clip(TINY, (0,)) + Clip(TINY, (0,), state=(-1, 0))
        self.assertEqual(told(whole), (TINY, (0, 1, 1, 0), (0, 0)))
        self.assertEqual(whole.heard(), (1, 0, -1, 0))
        self.assertIs(whole.__class__, Clip)

    def test_no_codes(self):
        clip = Clip(TINY, (0, 1), state=(-1, 0))
        empty = Clip(TINY, (), state=(1, 0))
        self.assertEqual(clip + empty, clip)
        self.assertEqual(told(empty + clip), (TINY, (1, 1, 0, 1), (1, 0)))
        self.assertEqual(empty + Clip(TINY), empty)
        # Of no codes nothing is heard, so no seam is needed to begin in another state.
        self.assertEqual(Clip(STILL, (0,)) + Clip(STILL, state=(1, 1)), Clip(STILL, (0,)))

    def test_against_a_search_through_all_rows(self):
        rng = Random(7)
        none = 0
        for coder in list(few_coders(120)) + [SMALL, TINY, DROPS, STILL]:
            for _ in range(6):
                one, two = rng.choice(states(coder)), rng.choice(states(coder))
                row, more = random_row(rng, coder, rng.randint(0, 3)), random_row(rng, coder, rng.randint(0, 3))
                clip, other = Clip(coder, row, state=one), Clip(coder, more, state=two)
                between = told_seam(coder, told_row(coder, row, one)[1], more, two)
                if between is None:
                    none += 1
                    self.assert_refused(NoSeam, {}, add, clip, other)
                    continue
                whole = clip + other
                self.assertEqual(told(whole), (coder, row + between + more, one))
                self.assertEqual(whole.heard()[:len(row)], clip.heard())
                self.assertEqual(whole.heard()[len(row) + len(between):], other.heard())
                self.assertEqual(between, seam(coder, clip.last(), more, state=two))
                self.assertEqual((told(clip), told(other)), ((coder, row, one), (coder, more, two)))
        self.assertTrue(none > 20)

    def test_the_whole_goes_on_by_itself(self):
        clip, other = Clip(TINY, (0,)), Clip(TINY, (0,))
        whole = clip + other
        for thing in (clip, other):
            thing += (1, 1)
        self.assertEqual(whole.codes, (0, 0))
        whole += (1,)
        self.assertEqual((clip.codes, other.codes), ((0, 1, 1), (0, 1, 1)))
        self.assertEqual((clip + clip).codes, (0, 1, 1, 0, 0, 1, 1))

    def test_a_coder_of_another_name(self):
        self.assertEqual((Clip(SMALL, (2,)) + Clip(tuple(list(SMALL)), (2,), state=(2, 1))).codes, (2, 2))

    def test_no_clip_of_this_coder(self):
        clip = Clip(SMALL, ROW)
        for thing in NO_CLIPS:
            self.assert_refused(OutOfPlace, {}, add, clip, thing)
        for coder in (TINY, SMALL[:4] + (2,), (-8, 6) + SMALL[2:], SMALL[:2] + ((2, 4, 9),) + SMALL[3:]):
            self.assert_refused(OutOfPlace, {}, add, clip, Clip(coder, (0,)))
            self.assert_refused(OutOfPlace, {}, add, Clip(coder, (0,)), clip)
        self.assertEqual(told(clip), (SMALL, ROW, (0, 0)))

    def test_no_seam(self):
        clip = Clip(STILL, (0, 1), state=(1, 0))
        other = Clip(STILL, (0, 1))
        self.assert_refused(NoSeam, {}, add, clip, other)
        self.assert_refused(NoSeam, {}, add, Clip(DROPS, (0,)), Clip(DROPS, (0,)))
        self.assertEqual((told(clip), told(other)), ((STILL, (0, 1), (1, 0)), (STILL, (0, 1), (0, 0))))

    def test_many_states(self):
        few, more = coder_with(4096), coder_with(4097)
        self.assertEqual((Clip(few, (0,)) + Clip(few, (0,), state=(1, 0))).codes, (0, 0))
        for coder in (more, coder_with(2049, 2), GREATEST):
            clip = Clip(coder, (0,))
            self.assert_refused(TooGreat, {"most": 4096}, add, clip, clip)
            self.assert_refused(TooGreat, {"most": 4096}, add, clip, Clip(coder))
            self.assertEqual(told(clip), (coder, (0,), (0, 0)))

    def test_2000_codes_and_2001(self):
        for many in (1, 2, 1000, 1999, 2000):
            clip = Clip(TINY, (0,) * many, state=(1, 0))
            self.assertEqual(len(clip + Clip(TINY, (0,) * (2000 - many), state=(1, 0))), 2000)
            other = Clip(TINY, (0,) * (2001 - many), state=(1, 0))
            self.assert_refused(TooGreat, {"most": 2000}, add, clip, other)
        # The codes of the seam count, too.
        clip = Clip(TINY, (0,) * 1000)
        self.assertEqual(len(clip + Clip(TINY, (0,) * 998, state=(-1, 0))), 2000)
        self.assert_refused(TooGreat, {"most": 2000}, add, clip, Clip(TINY, (0,) * 999, state=(-1, 0)))
        self.assertEqual(len(clip), 1000)

    def test_the_order_of_two(self):
        many = coder_with(4097)
        self.assert_refused(OutOfPlace, {}, add, Clip(many, (0,) * 2000), Clip(coder_with(4098), (0,) * 2000))
        self.assert_refused(OutOfPlace, {}, add, Clip(many, (0,) * 2000), None)
        still = (-1, 1, (1,) * 16, ((0, 0), (0, 0)), 0)
        stiller = (-2000, 2000) + still[2:]
        for coder, error, fields in ((stiller, TooGreat, {"most": 4096}), (still, NoSeam, {})):
            clip, other = Clip(coder, (0,) * 2000), Clip(coder, (0,) * 2000, state=(1, 0))
            self.assert_refused(error, fields, add, clip, other)
        self.assert_refused(TooGreat, {"most": 4096}, add, Clip(many, (0,) * 2000), Clip(many, (0,) * 2000))


class TimesTest(Refusals, unittest.TestCase):
    def test_codes_repeated(self):
        for clip in random_clips(20):
            for times in (0, 1, 2, 5):
                for repeated in (clip * times, times * clip):
                    self.assertEqual(told(repeated), (clip.coder, clip.codes * times, clip.state))
                    self.assertIs(repeated.__class__, Clip)
                    self.assertIsNot(repeated, clip)

    def test_repeated_clips_go_on_by_themselves(self):
        clip = Clip(TINY, (0,))
        for repeated in (clip * 1, 1 * clip):
            repeated += (1,)
            self.assertEqual((clip.codes, repeated.codes), ((0,), (0, 1)))

    def test_2000_codes_and_2001(self):
        one, three, empty = Clip(TINY, (1,)), Clip(TINY, (0, 1, 1)), Clip(TINY, state=(1, 0))
        for repeated in (one * 2000, 2000 * one):
            self.assertEqual(repeated.codes, (1,) * 2000)
        for repeated in (empty * 2000, 2000 * empty):
            self.assertEqual(repeated, empty)
        for repeated in (three * 666, 666 * three):
            self.assertEqual(len(repeated), 1998)
        self.assertEqual(len(Clip(TINY, (0,) * 2000) * 1), 2000)
        self.assertEqual(len(0 * Clip(TINY, (0,) * 2000)), 0)
        for clip, times in ((three, 667), (three, 2000), (Clip(TINY, (0, 1)), 1001), (Clip(TINY, (0,) * 2000), 2),
                            (Clip(TINY, (0,) * 1001), 2)):
            self.assert_refused(TooGreat, {"most": 2000}, mul, clip, times)
            self.assert_refused(TooGreat, {"most": 2000}, mul, times, clip)
        self.assertEqual(three.codes, (0, 1, 1))

    def test_no_times(self):
        for clip in (Clip(TINY), Clip(SMALL, ROW), Clip(TINY, (0,) * 2000)):
            for thing in WRONG_NUMBERS + (-1, 2001, 2002, HUGE, -HUGE, [0, 1], "ab", b"ab", (0, 1), [], clip):
                self.assert_refused(OutOfPlace, {}, mul, clip, thing)
            codes = clip.codes
            for thing in (True, False, None, "ab", "", b"ab", (), (0, 1), [], [0], {}, 1.0, 0.5, -1, 2001, HUGE, -HUGE):
                self.assert_refused(OutOfPlace, {}, mul, thing, clip)
            self.assertEqual(clip.codes, codes)

    def test_no_times_from_the_left(self):
        clip = Clip(SMALL, ROW)
        for thing in WRONG_NUMBERS:
            self.assert_refused(OutOfPlace, {}, mul, thing, clip)


class AppendTest(Refusals, unittest.TestCase):
    def test_a_row_appended(self):
        clip = Clip(SMALL, (2,), state=(1, 1))
        clip += (2, 0)
        clip += ()
        clip += (3,)
        self.assertEqual(told(clip), (SMALL, (2, 2, 0, 3), (1, 1)))
        self.assertEqual((clip.heard(), clip.last()), told_row(SMALL, (2, 2, 0, 3), (1, 1)))

    def test_the_clip_itself_by_whatever_name(self):
        clip = Clip(SMALL, (2,))
        other, clips, kept = clip, [clip], {"clip": clip}
        other += (2,)
        self.assertIs(other, clip)
        clips[0] += (0,)
        kept["clip"] += (3,)
        self.assertIs(iadd(clip, (1,)), clip)
        for one in (clip, other, clips[0], kept["clip"]):
            self.assertIs(one, clip)
            self.assertEqual(one.codes, ROW + (1,))

    def test_what_was_told_before_stays(self):
        clip = Clip(SMALL, (2, 2))
        codes, samples, last, stretch = clip.codes, clip.heard(), clip.last(), clip.stretch(1, 2)
        twice, whole = clip * 2, clip + Clip(SMALL)
        clip += (0, 3)
        self.assertEqual((codes, samples, last), ((2, 2), (2, 6), (6, 2)))
        self.assertEqual((told(stretch), twice.codes, whole.codes), ((SMALL, (2,), (2, 1)), (2, 2, 2, 2), (2, 2)))
        self.assertEqual(clip.heard(), (2, 6, 7, 3))

    def test_2000_codes_and_2001(self):
        clip = Clip(TINY, (0,) * 1998)
        clip += (1, 1)
        self.assertEqual(clip.codes, (0,) * 1998 + (1, 1))
        for row in ((0,), (1, 0), (0,) * 2000):
            self.assert_refused(TooGreat, {"most": 2000}, iadd, clip, row)
        clip += ()
        self.assertEqual(clip.codes, (0,) * 1998 + (1, 1))
        empty = Clip(TINY)
        empty += (1,) * 2000
        self.assertEqual(len(empty), 2000)

    def test_no_row(self):
        clip = Clip(SMALL, ROW)
        full = Clip(SMALL, (0,) * 2000)
        for one in (clip, full):
            for thing in NO_TUPLES + (clip, [0], "0"):
                self.assert_refused(BadRow, {"row": 0, "word": 0}, iadd, one, thing)
            for thing in WRONG_NUMBERS + (-1, 4, 16):
                self.assert_refused(BadRow, {"row": 1, "word": 2}, iadd, one, (0, thing, None))
            self.assert_refused(BadRow, {"row": 1, "word": 2001}, iadd, one, (0,) * 2001)
            self.assert_refused(BadRow, {"row": 1, "word": 2000}, iadd, one, (0,) * 1999 + (None, 0))
        self.assertEqual((clip.codes, full.codes), (ROW, (0,) * 2000))

    def test_a_refused_row_under_another_name(self):
        clip = Clip(SMALL, ROW)
        other = clip
        with self.assertRaises(BadRow):
            other += (0, 4)
        self.assertIs(other, clip)
        self.assertEqual(told(clip), (SMALL, ROW, (0, 0)))


if __name__ == "__main__":
    unittest.main()
