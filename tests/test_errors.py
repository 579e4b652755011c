"""foldednets.errors: the classes, their bases and their fields."""

import itertools
import unittest

from foldednets.errors import (CannotFold, InvalidNet, InvalidNumber, InvalidOrder, InvalidStanding, NotBeside,
                               NothingToUndo, UnknownPlace)

FIELDS = {InvalidNumber: "number", InvalidNet: "index", InvalidOrder: "index", InvalidStanding: "index",
          NotBeside: "pair", UnknownPlace: "place", CannotFold: "place"}
VALUE_ERRORS = (InvalidNumber, InvalidNet, InvalidOrder, InvalidStanding, NotBeside)
LOOKUP_ERRORS = (UnknownPlace, CannotFold, NothingToUndo)


class Classes(unittest.TestCase):

    def test_bases(self):
        for kind in VALUE_ERRORS:
            self.assertEqual(kind.__bases__, (ValueError,))
        for kind in LOOKUP_ERRORS:
            self.assertEqual(kind.__bases__, (LookupError,))

    def test_no_class_is_a_subclass_of_another_one(self):
        every = VALUE_ERRORS + LOOKUP_ERRORS
        self.assertEqual(len(set(every)), 8)
        for one, other in itertools.permutations(every, 2):
            self.assertFalse(issubclass(one, other))

    def test_fields(self):
        for kind, field in FIELDS.items():
            for value in (None, 0, 3, [1, 2], "x", object(), 10 ** 3999):
                self.assertEqual(vars(kind(value)), {field: value})
                self.assertIs(getattr(kind(value), field), value)
                self.assertIs(getattr(kind(**{field: value}), field), value)

    def test_no_fields(self):
        self.assertEqual(vars(NothingToUndo()), {})

    def test_messages_can_be_written_out(self):
        for kind in FIELDS:
            self.assertTrue(str(kind(10 ** 6000)))


if __name__ == "__main__":
    unittest.main()
