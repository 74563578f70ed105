"""What README.md tells of its examples is what they return."""

import ast
import unittest
from pathlib import Path

README = Path(__file__).resolve().parent.parent / "README.md"


def examples():
    """(CODE, COMMENT) of the lines of the blocks of Python."""
    inside = False
    for line in README.read_text("ascii").split("\n"):
        if line.startswith("```"):
            inside = line == "```python"
        elif inside and line and not line.startswith("#"):
            code, _, comment = line.partition(" #")
            yield code.strip(), comment.strip()


def told_value(comment):
    """The value that a comment begins with, up to a colon, or None."""
    try:
        return ast.literal_eval(comment.split(":")[0])
    except (SyntaxError, ValueError):
        return None


class ReadmeTest(unittest.TestCase):
    def test_examples(self):
        names = {}
        compared = 0
        for code, comment in examples():
            told = told_value(comment)
            try:
                parsed = compile(code, "README.md", "eval")
            except SyntaxError:
                exec(code, names)
                continue
            found = eval(parsed, names)
            if told is not None:
                compared += 1
                self.assertEqual(found, told, code)
        self.assertTrue(compared > 45)


if __name__ == "__main__":
    unittest.main()
