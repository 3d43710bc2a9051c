"""The refusals: each class right under FanError, each made of its field."""

import unittest

from fankinds import errors
from fankinds.errors import FanError

FIELDS = {
    "BadBook": None, "BadName": None, "BadFan": "side", "BadSide": None, "BadLot": None, "BadDeeds": None, "HasRow": "row",
    "TooGreat": "bound", "NoneStand": None, "NoParting": None, "NoCore": None, "Barred": "bar", "NoKind": "name",
    "NoRule": None, "NoDoor": "name", "NoRoom": "room", "NoWay": None, "Taken": "thing", "Same": None, "InUse": None,
    "Full": "bound", "Long": None, "NothingBack": None, "Busy": None, "Broken": "at", "NoText": "at", "TooTold": None,
}


class Errors(unittest.TestCase):
    def test_there_are_just_these(self):
        classes = {name for name, made in vars(errors).items() if isinstance(made, type)}
        self.assertEqual(classes, set(FIELDS) | {"FanError"})

    def test_each_right_under_the_one(self):
        self.assertEqual(FanError.__bases__, (ValueError,))
        for name in FIELDS:
            self.assertEqual(getattr(errors, name).__bases__, (FanError,), name)
            self.assertEqual(getattr(errors, name).__module__, "fankinds.errors")

    def test_none_under_another_one(self):
        for name in FIELDS:
            for other in FIELDS:
                self.assertIs(issubclass(getattr(errors, name), getattr(errors, other)), name == other)

    def test_made_of_the_field(self):
        things = [None, 0, 300, "out", ("a", "b"), [], {}, ("bare", 0, "a"), True]
        for name, field in FIELDS.items():
            for thing in things if field else []:
                made = getattr(errors, name)(thing)
                self.assertIs(getattr(made, field), thing)
                self.assertEqual(vars(made), {field: thing})
                self.assertIs(getattr(getattr(errors, name)(**{field: thing}), field), thing)
            if field:
                self.assertRaises(TypeError, getattr(errors, name))
                self.assertRaises(TypeError, getattr(errors, name), 1, 2)

    def test_made_of_none(self):
        for name, field in FIELDS.items():
            if field is None:
                self.assertEqual(vars(getattr(errors, name)()), {})
        self.assertIsInstance(FanError(), ValueError)

    def test_the_message_is_the_name(self):
        for name, field in FIELDS.items():
            self.assertEqual(str(getattr(errors, name)(*([7] if field else []))), name)

    def test_caught_by_the_one(self):
        for name, field in FIELDS.items():
            for caught in (FanError, ValueError, getattr(errors, name)):
                with self.assertRaises(caught):
                    raise getattr(errors, name)(*([7] if field else []))


if __name__ == "__main__":
    unittest.main()
