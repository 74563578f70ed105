"""The interface: each name in its own module, with its arguments."""

import importlib
import inspect
import unittest

FUNCTIONS = {
    "coders": {
        "is_coder": "thing", "need_coder": "thing", "states_of": "coder",
        "change_of": "coder code place", "led_to": "coder state code",
    },
    "texts": {
        "coder_text": "coder", "read_coder": "text", "row_text": "coder row", "read_row": "coder text",
    },
    "hearing": {"heard": "coder row *state", "last_state": "coder row *state"},
    "repeats": {
        "settling": "coder row *state", "last_of": "coder row times *state", "sample_at": "coder row number *state",
    },
    "maps": {"row_map": "coder row place", "limits_of": "coder row place"},
    "together": {
        "together": "coder one other", "check_together": "coder one other paper",
        "joining_row": "coder one other", "merging_row": "coder place",
    },
    "damage": {
        "received": "coder row damage", "healed": "coder row damage *state",
        "healing": "coder kind", "check_healing": "coder kind paper",
    },
    "alike": {
        "alike": "coder other one two", "check_alike": "coder other one two paper", "classes": "coder",
    },
    "speaking": {
        "error_of": "coder signal row *state", "greedy_row": "coder signal *state",
        "best_row": "coder signal *state", "check_best": "coder signal row prices *state",
    },
    "following": {
        "followed": "coder signal bound *state", "check_followed": "coder signal bound paper *state",
        "greatest_loss": "coder many *state",
    },
    "seams": {"reached": "coder one", "row_to": "coder one other", "seam": "coder one row *state"},
}
ERRORS = {
    "BadCoder": "part number", "BadRow": "row word", "BadPaper": "part number", "BadByte": "number",
    "OutOfPlace": "text", "NoSeam": "text", "TooGreat": "most", "Nothing": "text",
}


def arguments_of(call):
    """The names of the arguments, those by keyword alone with a star."""
    told = inspect.signature(call).parameters.values()
    return " ".join("*" * (one.kind is one.KEYWORD_ONLY) + one.name for one in told)


class InterfaceTest(unittest.TestCase):
    def test_functions(self):
        for name, calls in FUNCTIONS.items():
            module = importlib.import_module("stepsound." + name)
            for call, arguments in calls.items():
                found = getattr(module, call)
                self.assertTrue(inspect.isfunction(found))
                self.assertEqual(found.__module__, module.__name__)
                self.assertEqual(arguments_of(found), arguments)

    def test_start_is_the_default(self):
        for name, calls in FUNCTIONS.items():
            module = importlib.import_module("stepsound." + name)
            for call, arguments in calls.items():
                told = inspect.signature(getattr(module, call)).parameters
                defaults = {one: told[one].default for one in told if told[one].default is not told[one].empty}
                self.assertEqual(defaults, {"state": (0, 0)} if "*state" in arguments else {})

    def test_errors(self):
        module = importlib.import_module("stepsound.errors")
        for name, arguments in ERRORS.items():
            found = getattr(module, name)
            self.assertTrue(inspect.isclass(found))
            self.assertEqual(found.__module__, module.__name__)
            self.assertEqual(arguments_of(found), arguments)


if __name__ == "__main__":
    unittest.main()
