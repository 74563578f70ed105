"""Desks that undo steps and do them again, do several steps, count tries, copy and compare: [18]."""

import unittest

from stepsound.clips import Clip
from stepsound.desk import Desk
from stepsound.errors import Nothing, OutOfPlace, TooGreat
from tests.plain import standing
from tests.things import NO_CLIPS, Refusals, SMALL, TINY

ROW = (2, 2, 0, 3)


class UndoTest(Refusals, unittest.TestCase):
    STEPS = [("put", 4, 1), ("set", 0, 3), ("from", (7, 2)), ("cut", 1, 4), ("put", 0, 0), ("cut", 0, 3)]

    def test_to_the_ends_and_beyond(self):
        clip = Clip(SMALL, ROW)
        desk = Desk(clip)
        stands = [standing(desk)[:6]]
        for step in self.STEPS:
            desk.do(step)
            stands.append(standing(desk)[:6])
        for _ in range(2):
            self.assert_refused(Nothing, {}, desk.redo)
            for many in range(6, 0, -1):
                self.assertEqual(standing(desk)[:6], stands[many])
                self.assertEqual(standing(desk)[6], self.STEPS[many:])
                self.assertEqual(desk.undo(), self.STEPS[many - 1])
            self.assert_refused(Nothing, {}, desk.undo)
            self.assertEqual((desk.clip(), len(desk), desk.steps()), (clip, 0, []))
            for many in range(6):
                self.assertEqual(standing(desk)[:6], stands[many])
                self.assertEqual(desk.redo(), self.STEPS[many])
            self.assertEqual(standing(desk)[:6], stands[6])

    def test_nothing_ahead_of_the_first_step(self):
        desk = Desk(Clip(SMALL, ROW))
        for _ in range(3):
            self.assert_refused(Nothing, {}, desk.undo)
            self.assert_refused(Nothing, {}, desk.redo)
        self.assertEqual((desk.clip(), desk.tries()), (Clip(SMALL, ROW), 6))

    def test_until_another_step_is_done(self):
        for others in ([("put", 0, 0)], [("set", 0, 3)], [("cut", 0, 1)], [("from", (0, 0))], self.STEPS[:1]):
            for together in (False, True):
                desk = Desk(Clip(SMALL, ROW))
                desk.do_all(self.STEPS[:2])
                desk.undo()
                desk.undo()
                desk.redo()
                if together:
                    desk.do_all(others)
                else:
                    desk.do(others[0])
                self.assert_refused(Nothing, {}, desk.redo)
                self.assertEqual(desk.steps(), self.STEPS[:1] + others)

    def test_what_is_refused_ends_nothing(self):
        desk = Desk(Clip(SMALL, ROW))
        desk.do_all(self.STEPS)
        for _ in range(3):
            desk.undo()
        for call, thing in ((desk.do, ("put", 9, 0)), (desk.do, None), (desk.do_all, None),
                            (desk.do_all, [("put", 0, 0), ("put", 9, 0)])):
            self.assert_refused(OutOfPlace, {}, call, thing)
            self.assertEqual(standing(desk)[6], self.STEPS[3:])
        self.assertEqual(desk.do_all([]), [])
        self.assertEqual(desk.do_all(()), [])
        self.assertEqual([desk.redo() for _ in range(3)], self.STEPS[3:])
        self.assert_refused(Nothing, {}, desk.redo)

    def test_a_refused_redo_at_2000_codes(self):
        desk = Desk(Clip(TINY, (0,) * 1999))
        desk.do(("put", 0, 0))
        desk.undo()
        self.assertEqual(desk.redo(), ("put", 0, 0))
        self.assert_refused(TooGreat, {"most": 2000}, desk.do, ("put", 0, 0))
        self.assertEqual(desk.undo(), ("put", 0, 0))
        self.assertEqual(len(desk.clip()), 1999)


class DoAllTest(Refusals, unittest.TestCase):
    STEPS = [("put", 0, 1), ("set", 4, 0), ("cut", 1, 3), ("from", (5, 1)), ("put", 3, 2)]

    def test_one_behind_the_other(self):
        for steps in (self.STEPS, tuple(self.STEPS)):
            desk, other = Desk(Clip(SMALL, ROW)), Desk(Clip(SMALL, ROW))
            reports = desk.do_all(steps=steps)
            self.assertEqual(reports, [other.do(step) for step in steps])
            self.assertIs(reports.__class__, list)
            self.assertEqual(standing(desk), standing(other))
            self.assertEqual((desk.tries(), other.tries()), (1, 5))
            # They are undone one by one.
            for step in self.STEPS[::-1]:
                self.assertEqual(desk.undo(), step)
                other.undo()
                self.assertEqual(standing(desk), standing(other))

    def test_no_steps(self):
        desk = Desk(Clip(SMALL, ROW))
        self.assertEqual((desk.do_all([]), desk.do_all(())), ([], []))
        self.assertEqual((desk.tries(), len(desk), desk.clip()), (2, 0, Clip(SMALL, ROW)))

    def test_a_wrong_step_first_in_the_middle_and_last(self):
        desk = Desk(Clip(SMALL, ROW))
        desk.do(("set", 0, 1))
        desk.do(("set", 1, 1))
        desk.undo()
        ahead = standing(desk)
        for index in range(6):
            for wrong in (None, ("put", 9, 0), ("cut", 2, 2), ("set", 0, 4), ("from", (8, 0)), [], ("undo",)):
                for kind in (list, tuple):
                    steps = kind(self.STEPS[:index] + [wrong] + self.STEPS[index:])
                    self.assert_refused(OutOfPlace, {}, desk.do_all, steps)
                    self.assertEqual(standing(desk), ahead)

    def test_steps_that_can_be_done_behind_others_alone(self):
        desk = Desk(Clip(SMALL))
        steps = [("put", 0, 2), ("put", 1, 2), ("set", 1, 0), ("cut", 0, 2)]
        self.assert_refused(OutOfPlace, {}, desk.do_all, steps[::-1])
        self.assert_refused(OutOfPlace, {}, desk.do_all, steps[1:])
        self.assertEqual(desk.do_all(steps), [(0, (), (2,)), (1, (), (6,)), (1, (6,), (4,)), (0, (2, 4), ())])

    def test_2000_codes_and_2001(self):
        desk = Desk(Clip(TINY, (0,) * 1998))
        ahead = standing(desk)
        put, cut, wrong = ("put", 0, 1), ("cut", 0, 1), ("put", 0, 2)
        # It is refused as the first step that is refused.
        for steps in ([put] * 3, [put] * 3 + [cut], [put] * 3 + [wrong], [put] * 5):
            self.assert_refused(TooGreat, {"most": 2000}, desk.do_all, steps)
            self.assertEqual(standing(desk), ahead)
        for steps in ([put] * 2 + [wrong] + [put], [wrong] + [put] * 3, [put] * 2 + [("put", 2001, 0)]):
            self.assert_refused(OutOfPlace, {}, desk.do_all, steps)
            self.assertEqual(standing(desk), ahead)
        desk.do_all([put, put, cut, put])
        self.assertEqual(len(desk.clip()), 2000)
        self.assertEqual(desk.tries(), 8)

    def test_no_list_and_no_tuple(self):
        desk = Desk(Clip(SMALL, ROW))
        ahead = standing(desk)
        for thing in NO_CLIPS + ("put", {("put", 0, 0): True}, {("put", 0, 0)}, iter([("put", 0, 0)]), Desk(Clip(SMALL))):
            if not isinstance(thing, (list, tuple)):
                self.assert_refused(OutOfPlace, {}, desk.do_all, thing)
                self.assert_refused(OutOfPlace, {}, desk.do_all, steps=thing)
        for thing in (("put", 0, 0), ["put", 0, 0], [0], (None,)):
            self.assert_refused(OutOfPlace, {}, desk.do_all, thing)
        self.assertEqual(standing(desk), ahead)

    def test_later_changes(self):
        steps = list(self.STEPS)
        desk = Desk(Clip(SMALL, ROW))
        reports = desk.do_all(steps)
        self.assertEqual(steps, self.STEPS)
        ahead = standing(desk)
        stand = desk.steps()
        for things in (steps, reports, stand):
            things.clear()
            things.append(None)
        self.assertEqual(standing(desk), ahead)
        self.assertEqual(desk.steps(), self.STEPS)


class TriesTest(Refusals, unittest.TestCase):
    def test_tries(self):
        desk = Desk(Clip(SMALL, ROW))
        right, wrong = ("put", 0, 0), ("put", 9, 0)
        for many, (error, call, thing) in enumerate((
            (None, desk.do, right), (OutOfPlace, desk.do, wrong), (OutOfPlace, desk.do, None),
            (None, desk.do_all, [right, right]), (OutOfPlace, desk.do_all, [right, wrong]), (None, desk.do_all, []),
            (OutOfPlace, desk.do_all, None), (OutOfPlace, desk.do_all, {}), (None, desk.do_all, ()),
        )):
            self.assertEqual(desk.tries(), many)
            if error is None:
                call(thing)
            else:
                self.assert_refused(error, {}, call, thing)
        self.assertEqual(desk.tries(), 9)
        for call, error in ((desk.redo, Nothing), (desk.undo, None), (desk.redo, None), (desk.redo, Nothing),
                            (desk.undo, None), (desk.undo, None), (desk.undo, None), (desk.undo, Nothing)):
            if error is None:
                call()
            else:
                self.assert_refused(error, {}, call)
        self.assertEqual(desk.tries(), 17)

    def test_what_is_asked_is_no_try(self):
        desk = Desk(Clip(SMALL, ROW))
        desk.do(("put", 0, 0))
        for _ in range(3):
            desk.clip(), desk.heard(), desk.steps(), desk.tries(), desk.copy(), len(desk), desk == desk
        self.assertEqual(desk.tries(), 1)

    def test_too_many_codes_are_a_try(self):
        desk = Desk(Clip(TINY, (0,) * 2000))
        self.assert_refused(TooGreat, {"most": 2000}, desk.do, ("put", 0, 0))
        self.assert_refused(TooGreat, {"most": 2000}, desk.do_all, [("put", 0, 0)] * 9)
        self.assertEqual(desk.tries(), 2)


class CopyTest(Refusals, unittest.TestCase):
    def test_copies_go_on_by_themselves(self):
        desk = Desk(Clip(SMALL, ROW))
        desk.do_all([("put", 0, 1), ("set", 0, 2), ("cut", 3, 5)])
        desk.undo()
        self.assert_refused(OutOfPlace, {}, desk.do, None)
        copy = desk.copy()
        self.assertIs(copy.__class__, Desk)
        self.assertEqual((standing(copy), copy.tries()), (standing(desk), 3))
        self.assertEqual(copy, desk)
        ahead = standing(desk)
        self.assertEqual(copy.redo(), ("cut", 3, 5))
        copy.do(("from", (7, 0)))
        self.assertEqual((standing(desk), desk.tries(), copy.tries()), (ahead, 3, 5))
        behind = standing(copy)
        desk.undo()
        desk.do(("put", 0, 0))
        self.assertEqual((standing(copy), desk.tries(), copy.tries()), (behind, 5, 5))
        self.assertEqual([copy.undo() for _ in range(4)],
                         [("from", (7, 0)), ("cut", 3, 5), ("set", 0, 2), ("put", 0, 1)])
        self.assert_refused(Nothing, {}, copy.undo)
        self.assertEqual(copy.clip(), Clip(SMALL, ROW))

    def test_copies_behind_each_step(self):
        desk = Desk(Clip(SMALL, ROW, state=(1, 1)))
        for step in (("from", (7, 2)), ("put", 0, 1), ("from", (-3, 0)), ("cut", 0, 4), ("set", 0, 0)):
            desk.do(step)
            self.assertEqual(standing(desk.copy()), standing(desk))
            self.assertEqual(standing(desk.copy().copy()), standing(desk))
            self.assertEqual((desk.copy().clip(), desk.copy().heard()), (desk.clip(), desk.heard()))

    def test_copies_of_new_desks(self):
        desk = Desk(Clip(TINY))
        copy = desk.copy()
        copy.do(("put", 0, 0))
        self.assertEqual((len(desk), desk.tries(), len(copy), copy.tries()), (0, 0, 1, 1))
        self.assert_refused(Nothing, {}, desk.redo)


class EqualTest(Refusals, unittest.TestCase):
    def assert_equal_desks(self, one, other, same):
        for left, right in ((one, other), (other, one)):
            self.assertIs(left == right, same)
            self.assertIs(left != right, not same)

    def test_by_the_clips_that_they_began_with(self):
        clips = [Clip(coder, row, state=state) for coder in (TINY, TINY[:4] + (2,), SMALL)
                 for row in ((), (0,), (1,)) for state in ((0, 0), (-1, 0))]
        for clip in clips:
            for other in clips:
                self.assert_equal_desks(Desk(clip), Desk(other), clip == other)

    def test_by_the_steps_that_stand(self):
        desk, other = Desk(Clip(SMALL, ROW)), Desk(Clip(SMALL, ROW))
        desk.do(("put", 0, 1))
        self.assert_equal_desks(desk, other, False)
        other.do(("put", 0, 2))
        self.assert_equal_desks(desk, other, False)
        other.undo()
        other.do(("put", 0, 1))
        # Neither the tries nor what can be done again count.
        self.assert_equal_desks(desk, other, True)
        desk.do(("set", 0, 1))
        self.assert_equal_desks(desk, other, False)
        desk.undo()
        self.assert_equal_desks(desk, other, True)
        self.assert_refused(OutOfPlace, {}, desk.do, None)
        self.assert_equal_desks(desk, other, True)
        self.assert_equal_desks(desk, desk.copy(), True)

    def test_unlike_desks_with_equal_clips(self):
        desk, other = Desk(Clip(SMALL, ROW)), Desk(Clip(SMALL, ROW))
        desk.do(("set", 0, 2))
        self.assertEqual(desk.clip(), other.clip())
        self.assert_equal_desks(desk, other, False)
        begun = Desk(Clip(SMALL, (1,) + ROW))
        desk = Desk(Clip(SMALL, ROW))
        desk.do(("put", 0, 1))
        self.assertEqual(desk.clip(), begun.clip())
        self.assert_equal_desks(desk, begun, False)
        desk, other = Desk(Clip(SMALL, ROW)), Desk(Clip(SMALL, ROW))
        desk.do_all([("put", 0, 1), ("put", 0, 2)])
        other.do_all([("put", 0, 2), ("put", 1, 1)])
        self.assertEqual(desk.clip(), other.clip())
        self.assert_equal_desks(desk, other, False)

    def test_things_of_other_kinds(self):
        for desk in (Desk(Clip(TINY)), Desk(Clip(SMALL, ROW))):
            for thing in NO_CLIPS + (desk.clip(), desk.steps(), ()):
                if not isinstance(thing, Desk):
                    self.assertIs(desk == thing, False)
                    self.assertIs(desk != thing, True)


if __name__ == "__main__":
    unittest.main()
