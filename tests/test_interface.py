"""The interface: each name in its own module, with its arguments."""

import importlib
import inspect
import unittest

FUNCTIONS = {
    "coders": {
        "is_coder": "thing", "need_coder": "thing", "states_of": "coder",
        "change_of": "coder code place", "led_to": "coder state code",
    },
    "texts": {
        "coder_text": "coder", "read_coder": "text", "row_text": "coder row", "read_row": "coder text",
    },
    "hearing": {"heard": "coder row *state", "last_state": "coder row *state"},
    "repeats": {
        "settling": "coder row *state", "last_of": "coder row times *state", "sample_at": "coder row number *state",
    },
    "maps": {"row_map": "coder row place", "limits_of": "coder row place"},
    "together": {
        "together": "coder one other", "check_together": "coder one other paper",
        "joining_row": "coder one other", "merging_row": "coder place",
    },
    "damage": {
        "received": "coder row damage", "healed": "coder row damage *state",
        "healing": "coder kind", "check_healing": "coder kind paper",
    },
    "alike": {
        "alike": "coder other one two", "check_alike": "coder other one two paper", "classes": "coder",
    },
    "speaking": {
        "error_of": "coder signal row *state", "greedy_row": "coder signal *state",
        "best_row": "coder signal *state", "check_best": "coder signal row prices *state",
    },
    "following": {
        "followed": "coder signal bound *state", "check_followed": "coder signal bound paper *state",
        "greatest_loss": "coder many *state",
    },
    "seams": {"reached": "coder one", "row_to": "coder one other", "seam": "coder one row *state"},
    "blocks": {
        "file_of": "coder row size *state", "read_file": "coder data", "sample_in": "coder data number",
        "salvage": "coder data",
    },
}
# What each class is made of, with the defaults; its methods, operators and properties.
CLASSES = {
    "clips": ("Clip", "coder codes *state", {"codes": (), "state": (0, 0)}, {
        "heard": "", "last": "", "stretch": "begin end", "copy": "", "begins": "other",
    }, ("__len__", "__eq__", "__add__", "__mul__", "__rmul__", "__iadd__", "__contains__"), ("coder", "codes", "state")),
    "hearers": ("Hearer", "coder *state", {"state": (0, 0)}, {
        "__call__": "code", "jump": "state", "copy": "",
    }, (), ("state", "many")),
    "desk": ("Desk", "clip", {}, {
        "do": "step", "do_all": "steps", "undo": "", "redo": "", "clip": "", "heard": "", "steps": "", "tries": "",
        "copy": "",
    }, ("__len__", "__eq__"), ()),
}
ERRORS = {
    "BadCoder": "part number", "BadRow": "row word", "BadPaper": "part number", "BadByte": "number",
    "OutOfPlace": "text", "NoSeam": "text", "TooGreat": "most", "Nothing": "text",
}


def arguments_of(call):
    """The names of the arguments, those by keyword alone with a star."""
    told = inspect.signature(call).parameters.values()
    return " ".join("*" * (one.kind is one.KEYWORD_ONLY) + one.name for one in told)


def defaults_of(call):
    told = inspect.signature(call).parameters.values()
    return {one.name: one.default for one in told if one.default is not one.empty}


class InterfaceTest(unittest.TestCase):
    def test_functions(self):
        for name, calls in FUNCTIONS.items():
            module = importlib.import_module("stepsound." + name)
            for call, arguments in calls.items():
                found = getattr(module, call)
                self.assertTrue(inspect.isfunction(found))
                self.assertEqual(found.__module__, module.__name__)
                self.assertEqual(arguments_of(found), arguments)

    def test_start_is_the_default(self):
        for name, calls in FUNCTIONS.items():
            module = importlib.import_module("stepsound." + name)
            for call, arguments in calls.items():
                told = {"state": (0, 0)} if "*state" in arguments else {}
                self.assertEqual(defaults_of(getattr(module, call)), told)

    def test_classes(self):
        for name, (kind, arguments, defaults, methods, operators, properties) in CLASSES.items():
            module = importlib.import_module("stepsound." + name)
            found = getattr(module, kind)
            self.assertTrue(inspect.isclass(found))
            self.assertEqual(found.__module__, module.__name__)
            self.assertEqual((arguments_of(found), defaults_of(found)), (arguments, defaults))
            # All of it stands in the class itself.
            own = vars(found)
            for method, more in methods.items():
                self.assertTrue(inspect.isfunction(own[method]), method)
                self.assertEqual(arguments_of(own[method]), ("self " + more).strip())
                self.assertEqual(defaults_of(own[method]), {})
            for operator in operators:
                self.assertTrue(inspect.isfunction(own[operator]), operator)
            for one in properties:
                self.assertIsInstance(own[one], property)

    def test_the_interface_is_told_whole(self):
        for name in list(FUNCTIONS) + list(CLASSES):
            module = importlib.import_module("stepsound." + name)
            free = {one for one, thing in vars(module).items() if not one.startswith("_")
                    and getattr(thing, "__module__", None) == module.__name__}
            told = set(FUNCTIONS.get(name, ())) | set(CLASSES.get(name, ())[:1])
            self.assertEqual(free, told)

    def test_errors(self):
        module = importlib.import_module("stepsound.errors")
        for name, arguments in ERRORS.items():
            found = getattr(module, name)
            self.assertTrue(inspect.isclass(found))
            self.assertEqual(found.__module__, module.__name__)
            self.assertEqual(arguments_of(found), arguments)


if __name__ == "__main__":
    unittest.main()
