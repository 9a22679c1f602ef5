"""The error classes: their bases, their fields and their tags."""

import unittest

from grainmeet import errors

UNDER_GRAIN_ERROR = {
    "InvalidFour": ("given", (1, 2)),
    "InvalidNumber": ("given", 0),
    "InvalidRing": ("number", 4),
    "InvalidOrder": ("given", [3, 5]),
    "NotApart": ("prime", 3),
    "TooFar": ("most", 10000),
    "InvalidLimit": ("given", -1),
    "InvalidName": ("name", "Ann"),
    "DuplicateName": ("name", "ann"),
    "DuplicateMark": ("point", (1, 2, 3)),
    "CapacityExceeded": ("most", 8),
    "InvalidCommand": ("first", None),
    "ParseError": ("at", 7),
}
UNDER_MISSING = {
    "UnknownName": ("name", "bob"),
    "UnknownMark": ("point", (0, -1, 0)),
}
FIELDS = {**UNDER_GRAIN_ERROR, **UNDER_MISSING}
ALL_NAMES = ["GrainError", "Missing", "NothingLeft", *FIELDS]


class Bases(unittest.TestCase):
    def test_base_classes(self):
        self.assertEqual(errors.GrainError.__bases__, (ValueError,))
        self.assertEqual(errors.Missing.__bases__, (LookupError,))
        self.assertEqual(errors.NothingLeft.__bases__, (IndexError,))

    def test_each_error_is_directly_under_its_base(self):
        for name in UNDER_GRAIN_ERROR:
            self.assertEqual(getattr(errors, name).__bases__, (errors.GrainError,), name)
        for name in UNDER_MISSING:
            self.assertEqual(getattr(errors, name).__bases__, (errors.Missing,), name)

    def test_no_error_is_of_another_class(self):
        for name in ALL_NAMES:
            for other in ALL_NAMES:
                under = other == name
                under = under or (other == "GrainError" and name in UNDER_GRAIN_ERROR)
                under = under or (other == "Missing" and name in UNDER_MISSING)
                is_under = issubclass(getattr(errors, name), getattr(errors, other))
                self.assertEqual(is_under, under, (name, other))

    def test_classes_are_defined_in_the_file(self):
        for name in ALL_NAMES:
            self.assertEqual(getattr(errors, name).__module__, "grainmeet.errors")
            self.assertEqual(getattr(errors, name).__name__, name)


class Fields(unittest.TestCase):
    def test_field_and_tag(self):
        for name, (field, value) in FIELDS.items():
            with self.assertRaises(getattr(errors, name)) as caught:
                raise getattr(errors, name)(value)
            self.assertEqual(getattr(caught.exception, field), value, name)
            self.assertEqual(caught.exception.tag, name)

    def test_nothing_left(self):
        with self.assertRaises(IndexError) as caught:
            raise errors.NothingLeft()
        self.assertEqual(caught.exception.tag, "NothingLeft")

    def test_caught_by_base(self):
        for name, (field, value) in FIELDS.items():
            base = ValueError if name in UNDER_GRAIN_ERROR else LookupError
            with self.assertRaises(base):
                raise getattr(errors, name)(value)

    def test_values_of_any_length(self):
        error = errors.InvalidNumber(10 ** 9000)
        self.assertEqual(error.given, 10 ** 9000)
        self.assertTrue(str(error))


if __name__ == "__main__":
    unittest.main()
