"""The examples of the interface, word for word; tests/examples has a file for each section."""

import doctest
import unittest
from pathlib import Path

from allteams.errors import TeamError
from tests.support import ATTRIBUTES

FOLDER = Path(__file__).parent / "examples"
FILES = """
    barred clashes desk evens growth kinds looks pairs plans shares tables taking wishes
""".split()


def examples(text):
    """A list for each block between blank lines, of pairs of a statement and what is told below it or None."""
    blocks = []
    for block in text.strip("\n").split("\n\n"):
        pairs = []
        for line in block.split("\n"):
            if line.startswith(">>> "):
                pairs.append((line[4:], None))
            else:
                pairs[-1] = (pairs[-1][0], line)
        blocks.append(pairs)
    return blocks


def outcome(statement, names):
    """What an example shows for a statement: a value, an error or None."""
    try:
        value = eval(compile(statement, "example", "eval"), names)
    except SyntaxError:
        exec(compile(statement, "example", "exec"), names)
        return None
    except TeamError as error:
        name = type(error).__name__
        told = ", ".join(repr(getattr(error, attribute)) for attribute in ATTRIBUTES[name])
        return f"raises {name}({told})"
    return None if value is None else repr(value)


class Examples(unittest.TestCase):
    def test_all(self):
        paths = sorted(FOLDER.glob("*.txt"))
        self.assertEqual([path.stem for path in paths], FILES)
        for path in paths:
            for pairs in examples(path.read_text()):
                names = {}
                for statement, told in pairs:
                    self.assertEqual(outcome(statement, names), told, f"{path.name}: {statement}")

    def test_readme(self):
        told = doctest.testfile(str(FOLDER.parent.parent / "README.md"), module_relative=False)
        self.assertEqual(told.failed, 0)
        self.assertGreater(told.attempted, 0)

    def test_examples_are_looked_at(self):
        pairs = examples(">>> x = 1\n>>> x + 1\n2\n\n>>> 3\n4\n")
        self.assertEqual(pairs, [[("x = 1", None), ("x + 1", "2")], [("3", "4")]])
        self.assertEqual([outcome("3", {}), outcome("y = 1", {}), outcome("None", {})], ["3", None, None])


if __name__ == "__main__":
    unittest.main()
