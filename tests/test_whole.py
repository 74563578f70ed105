"""What holds for every call of the interface: [1], and the first two paragraphs of the interface."""

import unittest
from copy import deepcopy

from stepsound.blocks import salvage
from stepsound.clips import Clip
from stepsound.coders import is_coder, need_coder
from stepsound.desk import Desk
from stepsound.errors import BadCoder, BadRow, TooGreat
from stepsound.hearers import Hearer
from stepsound.texts import coder_text, read_coder
from tests.calls import CALLS, LAST, METHODS, error_of_argument, too_great
from tests.test_interface import CLASSES, FUNCTIONS
from tests.things import GREATEST, NO_CODERS, NO_NUMBERS, OWN_THINGS, Refusals, SMALL


def written(result):
    """A result as things that can be compared, an object of the package by what it tells."""
    if isinstance(result, Clip):
        return Clip, result.coder, result.codes, result.state
    if isinstance(result, Hearer):
        return Hearer, result.state, result.many
    return result.__class__, result


def named_and_state(arguments, state):
    return dict(arguments) if state is None else {**arguments, "state": state}


def in_order(arguments, state):
    """The names of the arguments in the order in which they are checked."""
    names = [name for name in arguments if name not in LAST]
    return names + ["state"] * (state is not None) + [name for name in arguments if name in LAST]


class WholeTest(Refusals, unittest.TestCase):
    def test_each_call_is_here(self):
        told = {(name, call) for name, calls in FUNCTIONS.items() for call in calls}
        told |= {(name, CLASSES[name][0]) for name in ("clips", "hearers")}
        here = {(call.__module__.split(".")[1], call.__name__) for call, _, _, _ in CALLS}
        self.assertEqual(told - here, {("coders", "is_coder"), ("coders", "need_coder"), ("texts", "read_coder")})
        self.assertEqual(here - told, set())

    def test_by_position_and_by_name(self):
        for call, arguments, state, _ in CALLS:
            named = {} if state is None else {"state": state}
            results = [call(*arguments.values(), **named), call(**arguments, **named),
                       call(**dict(reversed(list(arguments.items()))), **named)]
            for many in range(len(arguments)):
                values = list(arguments.values())[:many]
                rest = dict(list(arguments.items())[many:])
                results.append(call(*values, **rest, **named))
            for result in results:
                self.assertEqual(written(result), written(results[0]), call.__name__)

    def test_what_is_left_out_is_start(self):
        for call, arguments, state, _ in CALLS:
            if state is not None and not {"prices", "paper"} & set(arguments):
                results = [call(**arguments), call(**arguments, state=(0, 0))]
                self.assertEqual(written(results[0]), written(results[1]), call.__name__)

    def test_a_state_behind_a_star_is_passed_by_keyword_alone(self):
        for call, arguments, state, _ in CALLS:
            if state is not None:
                with self.assertRaises(TypeError):
                    call(*arguments.values(), state)

    def test_no_coder_whatever_else_is_wrong(self):
        for call, arguments, state, _ in CALLS:
            for others in (arguments, dict.fromkeys(arguments), dict.fromkeys(arguments, -1)):
                for thing in NO_CODERS:
                    named = {**others, "coder": thing}
                    if state is not None:
                        named["state"] = None
                    self.assert_refused(BadCoder, {}, call, **named)

    def test_no_other_coder_whatever_else_is_wrong(self):
        for call, arguments, _, _ in CALLS:
            if call.__name__ in ("alike", "check_alike"):
                for thing in NO_CODERS:
                    named = {**dict.fromkeys(arguments), "coder": arguments["coder"], "other": thing}
                    self.assert_refused(BadCoder, {}, call, **named)
                named["other"] = too_great(256)
                self.assert_refused(TooGreat, {"most": 256}, call, **named)

    def test_too_many_states_whatever_else_is_wrong(self):
        for call, arguments, state, most in CALLS:
            if most is not None:
                for coder in (too_great(most), GREATEST):
                    named = {**dict.fromkeys(named_and_state(arguments, state)), "coder": coder}
                    self.assert_refused(TooGreat, {"most": most}, call, **named)

    def test_wrong_things_of_any_kind(self):
        for call, arguments, state, _ in CALLS:
            right = named_and_state(arguments, state)
            for name in right:
                error, fields = error_of_argument(call, name)
                for thing in NO_NUMBERS:
                    if self.is_wrong(name, thing):
                        self.assert_refused(error, fields, call, **{**right, name: thing})

    def test_wrong_things_of_any_kind_for_methods(self):
        for make, method, arguments in METHODS:
            for name in arguments:
                error, fields = error_of_argument(None, name)
                for thing in NO_NUMBERS:
                    if self.is_wrong(name, thing) and not (name == "steps" and isinstance(thing, list) and not thing):
                        made = make()
                        ahead = deepcopy(written(made))
                        self.assert_refused(error, fields, getattr(made, method), **{**arguments, name: thing})
                        self.assertEqual(written(made), ahead)

    def is_wrong(self, name, thing):
        """False for the few of NO_NUMBERS that may be right, or are refused by their first thing."""
        if name == "text":
            return not isinstance(thing, str)
        if name == "other" and isinstance(thing, Clip):
            return False
        return not (name in ("row", "codes", "data", "prices") and isinstance(thing, tuple))

    def test_from_left_to_right(self):
        for call, arguments, state, _ in CALLS:
            right = named_and_state(arguments, state)
            names = in_order(arguments, state)
            for index, name in enumerate(names):
                error, fields = error_of_argument(call, name)
                for wrong in (None, OWN_THINGS[0]):
                    named = {**right, **dict.fromkeys(names[index:], wrong)}
                    self.assert_refused(error, fields, call, **named)

    def test_equal_calls_and_arguments_that_stay(self):
        for call, arguments, state, _ in CALLS:
            named = named_and_state(arguments, state)
            kept = deepcopy(named)
            first = written(call(**named))
            self.assertEqual(named, kept)
            for _ in range(2):
                self.assertEqual(written(call(**deepcopy(kept))), first, call.__name__)
            for name in named:
                with self.assertRaises((ValueError, OverflowError)):
                    call(**{**named, name: None})
            self.assertEqual(written(call(**named)), first, call.__name__)

    def test_methods(self):
        for make, method, arguments in METHODS:
            kept = {name: thing.copy() if isinstance(thing, (Clip, list)) else thing for name, thing in arguments.items()}
            one, other = make(), make()
            first = getattr(one, method)(*arguments.values())
            self.assertEqual(written(getattr(other, method)(**arguments)), written(first))
            self.assertEqual(arguments, kept)

    def test_later_changes_to_results(self):
        data = dict(CALLS[-1][1])
        blocks = salvage(**data)
        kept = list(blocks)
        blocks.clear()
        self.assertEqual(salvage(**data), kept)

    def test_the_calls_without_another_argument(self):
        for thing in NO_CODERS:
            self.assertIs(is_coder(thing=thing), False)
            self.assert_refused(BadCoder, {}, need_coder, thing=thing)
        self.assertIs(is_coder(SMALL), True)
        self.assertIs(need_coder(SMALL), SMALL)
        self.assertEqual(read_coder(text=coder_text(coder=SMALL)), SMALL)
        for thing in NO_NUMBERS:
            if not isinstance(thing, str):
                self.assert_refused(BadRow, {"row": 0, "word": 0}, read_coder, thing)

    def test_own_things_are_no_coders_and_not_changed(self):
        for thing in OWN_THINGS:
            self.assertIs(is_coder(thing), False)
        clips = [thing for thing in OWN_THINGS if isinstance(thing, Clip)]
        self.assertEqual([clip.codes for clip in clips], [(), (0, 1)])
        desks = [thing for thing in OWN_THINGS if isinstance(thing, Desk)]
        self.assertEqual([(desk.tries(), desk.heard()) for desk in desks], [(0, ()), (0, (2, 4))])


if __name__ == "__main__":
    unittest.main()
