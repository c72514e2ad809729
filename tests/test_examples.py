"""The document's own examples, as they stand there, the errors too."""

import pathlib
import unittest

from carryladder.errors import LadderError

FOLDER = pathlib.Path(__file__).parent / "examples"

# How many examples with an answer each part of the document has, in its order; names that were set once stay set.
COUNTS = (("machines", 23), ("programs", 20), ("tricks", 4), ("carrying", 7), ("lookalikes", 7), ("turnings", 5),
          ("rings", 2), ("rungs", 3), ("papers", 8), ("making", 5), ("onewidth", 11), ("counting", 5), ("hanging", 4),
          ("fewest", 6), ("benches", 11), ("benchlogs", 7), ("shells", 5))


def examples_of(name):
    """The pairs (source, what it answers) of a file; the answer is None where none is told."""
    found = []
    for line in (FOLDER / name).read_text().splitlines():
        if line.startswith(">>> "):
            found.append([line[4:], None])
        else:
            found[-1][1] = line
    return found


def examples_of_readme():
    """The pairs of a source and its answer in README.md, where they stand behind four blanks."""
    found = []
    for line in (FOLDER.parent.parent / "README.md").read_text().splitlines():
        if line.startswith("    >>> "):
            found.append([line[8:], None])
        elif found and line.startswith("    ") and found[-1][1] is None:
            found[-1][1] = line[4:]
    return found


def answer(source, names):
    try:
        return repr(eval(source, names))
    except LadderError as error:
        fields = ", ".join([repr(field) for field in vars(error).values()])
        return f"raises {type(error).__name__}({fields})"


class ExamplesTest(unittest.TestCase):
    def check(self, name, names):
        asked = 0
        for source, told in examples_of(name):
            if told is None:
                exec(source, names)
                continue
            asked += 1
            with self.subTest(source=source):
                self.assertEqual(answer(source, names), told)
        return asked

    def test_examples(self):
        names = {}
        for name, asked in COUNTS:
            self.assertEqual(self.check(name + ".txt", names), asked)
        self.assertEqual(sorted(name + ".txt" for name, _ in COUNTS), sorted(file.name for file in FOLDER.iterdir()))

    def test_readme(self):
        names, asked = {}, 0
        for source, told in examples_of_readme():
            if source.startswith("from ") or " = " in source.split("(")[0]:
                exec(source, names)
                continue
            asked += 1
            self.assertEqual(answer(source, names), told, source)
        self.assertEqual(asked, 9)


if __name__ == "__main__":
    unittest.main()
