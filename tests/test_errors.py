"""The errors of the interface, and what is raised with them."""

import unittest

from everycount import errors
from everycount.errors import BadText, CountError, NoLetter, NoMove, NoPlace, TooLong, Unused

KINDS = [
    (TooLong, "length"),
    (Unused, "number"),
    (NoPlace, "word"),
    (NoMove, "number"),
    (NoLetter, "place"),
    (BadText, "place"),
]

VALUES = [0, -1, 10 ** 600, True, None, "shape", "", (), (1, (2, None)), [1, 2], b"x"]


class Errors(unittest.TestCase):
    def test_keeps_its_value(self):
        for kind, name in KINDS:
            for value in VALUES:
                self.assertIs(getattr(kind(value), name), value)
                self.assertIs(getattr(kind(**{name: value}), name), value)

    def test_needs_its_value(self):
        for kind, _ in KINDS:
            self.assertRaises(TypeError, kind)
            self.assertRaises(TypeError, kind, 1, 2)

    def test_stands_directly_under_count_error(self):
        self.assertEqual(CountError.__bases__, (ValueError,))
        for kind, _ in KINDS:
            self.assertEqual(kind.__bases__, (CountError,))

    def test_is_no_kind_of_another_one(self):
        for kind, _ in KINDS:
            for other, _ in KINDS:
                self.assertEqual(issubclass(kind, other), kind is other)

    def test_can_be_caught_by_each_name_above(self):
        for kind, name in KINDS:
            for above in (kind, CountError, ValueError):
                with self.assertRaises(above) as caught:
                    raise kind((3, None))
                self.assertEqual(getattr(caught.exception, name), (3, None))

    def test_is_defined_in_its_file(self):
        for kind in [CountError] + [kind for kind, _ in KINDS]:
            self.assertEqual(kind.__module__, "everycount.errors")
            self.assertIs(getattr(errors, kind.__name__), kind)


if __name__ == "__main__":
    unittest.main()
