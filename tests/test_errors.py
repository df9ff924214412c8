"""[3]: the error classes, how they stand under one another, and what they keep."""

import unittest

from gridknot import errors
from gridknot.errors import (
    InvalidClaim,
    InvalidDeed,
    InvalidGrid,
    InvalidMove,
    InvalidNumber,
    InvalidQuestion,
    InvalidText,
    KnotError,
    NothingToUndo,
    Undefined,
)

NAMES = {
    InvalidGrid: ("value",),
    InvalidText: ("text", "at"),
    InvalidMove: ("move",),
    InvalidNumber: ("value",),
    InvalidClaim: ("value",),
    InvalidQuestion: ("value",),
    InvalidDeed: ("value",),
    Undefined: ("what",),
    NothingToUndo: ("deed",),
}

VALUES = (7, -1, True, None, "undo", "", [1, [2]], (), ("swap rows", 9), 10 ** 5000)


class Kept(unittest.TestCase):
    def test_made_by_position_or_by_name_each_keeps_its_arguments(self):
        for kind, names in NAMES.items():
            for value in VALUES:
                parts = [value] + [[k] for k in range(1, len(names))]
                for error in (kind(*parts), kind(**dict(zip(names, parts)))):
                    for name, part in zip(names, parts):
                        self.assertIs(getattr(error, name), part)

    def test_names_of_a_text_error_are_not_mixed_up(self):
        error = InvalidText(at=3, text="abc")
        self.assertEqual((error.text, error.at), ("abc", 3))

    def test_the_arguments_must_be_as_many_as_named(self):
        for kind, names in NAMES.items():
            with self.assertRaises(TypeError):
                kind()
            with self.assertRaises(TypeError):
                kind(*range(len(names) + 1))

    def test_each_error_keeps_its_own(self):
        one, other = InvalidMove(1), InvalidMove(2)
        self.assertEqual((one.move, other.move), (1, 2))


class Family(unittest.TestCase):
    def test_all_stand_straight_under_knot_error(self):
        for kind in NAMES:
            self.assertEqual(kind.__bases__, (KnotError,))

    def test_knot_error_is_a_value_error(self):
        self.assertTrue(issubclass(KnotError, ValueError))

    def test_none_catches_another_one(self):
        for kind in NAMES:
            for other in NAMES:
                self.assertEqual(issubclass(kind, other), kind is other)

    def test_there_are_nine_under_knot_error(self):
        found = [
            value for value in vars(errors).values()
            if isinstance(value, type) and issubclass(value, KnotError) and value is not KnotError
        ]
        self.assertEqual(len(found), 9)
        self.assertEqual({kind.__name__ for kind in found}, {kind.__name__ for kind in NAMES})

    def test_they_can_be_raised_and_caught(self):
        for kind, names in NAMES.items():
            for upper in (kind, KnotError, ValueError):
                with self.assertRaises(upper):
                    raise kind(*names)

    def test_they_are_not_iterable(self):
        for kind, names in NAMES.items():
            with self.assertRaises(TypeError):
                iter(kind(*names))


if __name__ == "__main__":
    unittest.main()
