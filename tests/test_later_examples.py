"""The examples of the document for its later parts, as they stand there: blocks of lines, each block for itself."""

import pathlib
import unittest

FOLDER = pathlib.Path(__file__).resolve().parent


def calls_of(block):
    """The lines of code of a block, each with what stands below it."""
    for part in block.split(">>> ")[1:]:
        code, _, wanted = part.partition("\n")
        yield code, wanted.strip()


class LaterExampleTests(unittest.TestCase):
    def check(self, name, many):
        calls = 0
        for block in (FOLDER / name).read_text(encoding="ascii").split("\n\n"):
            names = {}
            for code, wanted in calls_of(block):
                if wanted:
                    calls += 1
                    self.assertEqual(repr(eval(code, names)), wanted, code)
                else:
                    exec(code, names)
        self.assertEqual(calls, many)

    def test_parts_7_to_10(self):
        self.check("examples_7_to_10.txt", 13)

    def test_parts_11_to_14(self):
        self.check("examples_11_to_14.txt", 13)
