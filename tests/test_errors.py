"""Each error: how it is made, what it keeps, and what it is."""

import unittest

from carryladder import errors
from carryladder.errors import LadderError

FIELDS = {
    "Unfit": (), "BadMachine": ("error",), "BadProgram": ("error",), "BadTable": ("error",), "BadText": ("line",),
    "BadLog": ("line",), "TooMany": ("limit",), "TooManyEdits": (), "NothingToUndo": (),
}

KEPT = (None, True, False, 0, 1, -1, 10 ** 399, "", "form", "many\nlines", (), ("row", 3), ("letter", 0, 1), [], [1],
        {}, {"a": [1]}, 10 ** 6000)


def kind_of(name):
    return getattr(errors, name)


class ErrorsTest(unittest.TestCase):
    def test_the_base_is_a_value_error(self):
        self.assertEqual(LadderError.__bases__, (ValueError,))

    def test_each_stands_directly_under_the_base(self):
        for name in FIELDS:
            self.assertEqual(kind_of(name).__bases__, (LadderError,), name)

    def test_each_is_caught_as_itself_and_its_bases_alone(self):
        for name, fields in FIELDS.items():
            error = kind_of(name)(*[0 for _ in fields])
            for other in FIELDS:
                self.assertEqual(isinstance(error, kind_of(other)), other == name)
            for caught in (kind_of(name), LadderError, ValueError):
                with self.assertRaises(caught):
                    raise error

    def test_arguments_are_kept_by_place(self):
        for name, fields in FIELDS.items():
            for worth in KEPT if fields else ():
                error = kind_of(name)(worth)
                self.assertIs(getattr(error, fields[0]), worth)
                self.assertEqual(list(vars(error)), list(fields))

    def test_arguments_are_kept_by_name(self):
        for name, fields in FIELDS.items():
            for worth in KEPT if fields else ():
                error = kind_of(name)(**{fields[0]: worth})
                self.assertIs(getattr(error, fields[0]), worth)
                self.assertEqual(list(vars(error)), list(fields))

    def test_those_without_arguments_keep_nothing(self):
        for name, fields in FIELDS.items():
            if not fields:
                self.assertEqual(vars(kind_of(name)()), {}, name)

    def test_those_with_an_argument_want_it(self):
        for name, fields in FIELDS.items():
            if fields:
                with self.assertRaises(TypeError):
                    kind_of(name)()
                with self.assertRaises(TypeError):
                    kind_of(name)(1, 2)

    def test_two_errors_keep_their_own(self):
        for name, fields in FIELDS.items():
            if fields:
                one, other = kind_of(name)(1), kind_of(name)(2)
                self.assertEqual((getattr(one, fields[0]), getattr(other, fields[0])), (1, 2))


if __name__ == "__main__":
    unittest.main()
