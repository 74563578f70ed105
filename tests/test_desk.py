"""Desks, their steps and reports: [1], [18], and stepsound/desk.py."""

import unittest
from random import Random

from stepsound.clips import Clip
from stepsound.desk import Desk
from stepsound.errors import OutOfPlace, TooGreat
from tests.plain import PlainDesk, standing, steps_of, told_report
from tests.things import CODERS, FADING, GREATEST, HUGE, NO_CLIPS, NO_PARTS, Refusals, SMALL, STILL, TINY, WRONG_NUMBERS
from tests.things import no_states, random_coders, random_row, told_row

ROW = (2, 2, 0, 3)
NO_STEPS = WRONG_NUMBERS + (
    "put", ("put",), ("put", 0), ("put", 0, 0, 0), ["put", 0, 0], ("Put", 0, 0), ("put ", 0, 0), (b"put", 0, 0),
    ("set",), ("set", 0), ("set", 0, 0, 0), ["set", 0, 0], ("cut",), ("cut", 0), ("cut", 0, 1, 0), ["cut", 0, 1],
    ("from",), ("from", 0, 0), ("from", (0, 0), 0), ["from", (0, 0)], ("from", [0, 0]), ("lost", 0), ("twice", 0),
    ("other", 0, 1), ("undo",), ("", 0, 0), (0, "put", 0), (("put", 0, 0),), HUGE,
)


class MadeTest(Refusals, unittest.TestCase):
    def test_made_of_a_clip(self):
        for coder in CODERS:
            for codes in ((), (1, 0, 1)):
                clip = Clip(coder, codes, state=(0, len(coder[2]) - 1))
                desk = Desk(clip=clip)
                self.assertEqual(desk.clip(), clip)
                self.assertIs(desk.clip().__class__, Clip)
                self.assertEqual((desk.heard(), desk.steps(), desk.tries(), len(desk)), (clip.heard(), [], 0, 0))
                self.assertIs(desk.heard().__class__, tuple)

    def test_the_clip_is_copied(self):
        clip = Clip(SMALL, ROW)
        desk = Desk(clip)
        clip += (1, 1)
        self.assertEqual(desk.clip().codes, ROW)
        kept = desk.clip()
        kept += (0,)
        desk.do(("set", 0, 1))
        self.assertEqual((clip.codes, kept.codes, desk.clip().codes), (ROW + (1, 1), ROW + (0,), (1, 2, 0, 3)))
        # Nor does what is done to the clip change what the desk began with.
        self.assertEqual(Desk(Clip(SMALL, ROW)), Desk(Clip(SMALL, ROW)))
        self.assertEqual(desk.undo(), ("set", 0, 1))
        self.assertEqual(desk, Desk(Clip(SMALL, ROW)))

    def test_no_clip(self):
        for thing in NO_CLIPS:
            self.assert_refused(OutOfPlace, {}, Desk, thing)
            self.assert_refused(OutOfPlace, {}, Desk, clip=thing)


class StepTest(Refusals, unittest.TestCase):
    def assert_done(self, clip, step, codes, state=None):
        desk = Desk(clip)
        report = desk.do(step=step)
        behind = Clip(clip.coder, codes, state=clip.state if state is None else state)
        self.assertEqual(desk.clip(), behind)
        self.assertEqual((desk.heard(), desk.steps(), len(desk)), (behind.heard(), [step], 1))
        self.assertEqual(report, told_report(clip.heard(), behind.heard()))
        self.assertEqual([thing.__class__ for thing in (report,) + report], [tuple, int, tuple, tuple])

    def assert_never_done(self, desk, step):
        ahead = standing(desk)
        for call, thing in ((desk.do, step), (desk.do_all, [step]), (desk.do_all, (step,))):
            self.assert_refused(OutOfPlace, {}, call, thing)
            self.assertEqual(standing(desk), ahead)

    def test_put(self):
        clip = Clip(SMALL, ROW, state=(1, 1))
        for index in range(5):
            for code in range(4):
                self.assert_done(clip, ("put", index, code), ROW[:index] + (code,) + ROW[index:])
        self.assert_done(Clip(TINY), ("put", 0, 1), (1,))

    def test_set(self):
        clip = Clip(SMALL, ROW, state=(1, 1))
        for index in range(4):
            # The code that stands there may be set again.
            for code in range(4):
                self.assert_done(clip, ("set", index, code), ROW[:index] + (code,) + ROW[index + 1:])

    def test_cut(self):
        clip = Clip(SMALL, ROW, state=(1, 1))
        for end in range(5):
            for begin in range(end):
                self.assert_done(clip, ("cut", begin, end), ROW[:begin] + ROW[end:])
        self.assert_done(Clip(SMALL, (0,) * 2000), ("cut", 0, 2000), ())

    def test_from(self):
        for state in ((0, 0), (-8, 2), (7, 0), (1, 1)):
            self.assert_done(Clip(SMALL, ROW, state=(1, 1)), ("from", state), ROW, state)
            self.assert_done(Clip(SMALL), ("from", state), (), state)

    def test_what_a_report_leaves_out(self):
        # The coder goes up and down by 1 and 2, without limits that are met.
        coder = (-99, 99, (8,), ((1, 0), (-1, 0), (2, 0), (-2, 0)), 0)
        desk = Desk(Clip(coder, (0, 1, 0, 1)))
        self.assertEqual(desk.heard(), (1, 0, 1, 0))
        self.assertEqual(desk.do(("put", 4, 0)), (4, (), (1,)))
        self.assertEqual(desk.do(("cut", 0, 2)), (3, (0, 1), ()))
        self.assertEqual(desk.do(("set", 1, 2)), (1, (0, 1), (3, 4)))
        self.assertEqual(desk.do(("from", (1, 0))), (0, (1, 3, 4), (2, 4, 5)))
        self.assertEqual(desk.do(("from", (1, 0))), (3, (), ()))
        self.assertEqual(desk.do(("set", 0, 0)), (3, (), ()))
        self.assertEqual(desk.do(("cut", 0, 3)), (0, (2, 4, 5), ()))
        self.assertEqual(desk.do(("from", (7, 0))), (0, (), ()))
        self.assertEqual(desk.do(("put", 0, 3)), (0, (), (5,)))

    def test_no_overlap_in_a_report(self):
        still = Desk(Clip(STILL, (0, 0, 0)))
        self.assertEqual(still.do(("put", 1, 1)), (3, (), (0,)))
        self.assertEqual(still.do(("cut", 0, 2)), (2, (0, 0), ()))
        self.assertEqual(still.do(("set", 0, 1)), (2, (), ()))
        limited = Desk(Clip(TINY, (0, 0, 0, 1), state=(1, 0)))
        self.assertEqual(limited.do(("put", 0, 0)), (3, (), (1,)))
        self.assertEqual(limited.do(("set", 1, 1)), (1, (1,), (0,)))

    def test_beyond_the_clip(self):
        desk, empty = Desk(Clip(SMALL, ROW)), Desk(Clip(SMALL))
        for index in (-1, -HUGE, 5, 6, HUGE):
            self.assert_never_done(desk, ("put", index, 0))
        for index in (-1, -4, -HUGE, 4, 5, HUGE):
            self.assert_never_done(desk, ("set", index, 0))
        for begin, end in ((0, 0), (1, 1), (4, 4), (1, 0), (4, 0), (3, 1), (0, 5), (4, 5), (5, 5), (5, 6), (-1, 1),
                           (-1, 0), (-2, -1), (0, -1), (0, HUGE), (-HUGE, 1), (HUGE, HUGE)):
            self.assert_never_done(desk, ("cut", begin, end))
        for step in (("put", 1, 0), ("put", -1, 0), ("set", 0, 0), ("set", -1, 0), ("cut", 0, 0), ("cut", 0, 1),
                     ("cut", -1, 0)):
            self.assert_never_done(empty, step)

    def test_codes_and_states_beyond_the_coder(self):
        desk = Desk(Clip(SMALL, ROW))
        for code in (-1, 4, 16, HUGE):
            self.assert_never_done(desk, ("put", 0, code))
            self.assert_never_done(desk, ("set", 0, code))
        for state in no_states(SMALL):
            self.assert_never_done(desk, ("from", state))

    def test_no_step(self):
        desk = Desk(Clip(SMALL, ROW))
        for thing in NO_STEPS:
            self.assert_never_done(desk, thing)
        for thing in WRONG_NUMBERS:
            for word in ("put", "set", "cut"):
                self.assert_never_done(desk, (word, thing, 1))
                self.assert_never_done(desk, (word, 0, thing))
                self.assert_never_done(desk, (word, thing, thing))
            self.assert_never_done(desk, (thing, 0, 1))
            self.assert_never_done(desk, (thing, (0, 0)))
        for word in NO_PARTS + ("PUT", "put\n", "cut from"):
            self.assert_never_done(desk, (word, 0, 1))

    def test_2000_codes_and_2001(self):
        desk = Desk(Clip(TINY, (0,) * 1999))
        self.assertEqual(desk.do(("put", 1999, 1)), (1999, (), (0,)))
        ahead = standing(desk)
        for step in (("put", 0, 0), ("put", 1000, 1), ("put", 2000, 0)):
            self.assert_refused(TooGreat, {"most": 2000}, desk.do, step)
            self.assert_refused(TooGreat, {"most": 2000}, desk.do_all, [step])
            self.assertEqual(standing(desk), ahead)
        for step in (("put", 2001, 0), ("put", -1, 0), ("put", 0, 2), ("put", 0, None), ("put", None, 0), ("put", 0)):
            self.assert_never_done(desk, step)
        for step in (("set", 0, 1), ("from", (1, 0)), ("cut", 0, 1), ("put", 0, 0), ("set", 1999, 0)):
            desk.do(step)
        self.assertEqual(len(desk.clip()), 2000)

    def test_random_steps_against_a_plain_desk(self):
        rng = Random(22)
        for coder in list(random_coders(40)) + [SMALL, TINY, FADING, STILL, GREATEST]:
            clip = Clip(coder, random_row(rng, coder, rng.randint(0, 9)))
            desk, plain = Desk(clip), PlainDesk(clip)
            for _ in range(60):
                way = rng.random()
                if way < 0.5:
                    step = rng.choice(steps_of(rng, coder, plain.codes))
                    self.assertEqual(desk.do(step), plain.do(step))
                elif way < 0.75 and plain.done:
                    self.assertEqual(desk.undo(), plain.undo())
                elif way < 0.9 and plain.undone:
                    self.assertEqual(desk.redo(), plain.redo())
                self.assertEqual(standing(desk), plain.standing())


if __name__ == "__main__":
    unittest.main()
