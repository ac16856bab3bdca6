"""[1], [8]: the errors, their bases and their attributes."""

import inspect
import unittest

from besthours import errors

ATTRIBUTES = {
    "BadDays": ("value",),
    "BadSet": ("value",),
    "BadRule": ("place",),
    "BadBook": ("place",),
    "BadPlan": ("place",),
    "BadQuestion": ("place",),
    "BadSum": ("value",),
    "BadProof": ("place",),
    "BadPeriods": ("place",),
    "BadDeed": ("place",),
    "BadText": ("line", "word"),
    "BadParameter": ("value",),
    "NoRow": (),
    "Unlike": ("value",),
    "TooGreat": ("most",),
}


class Errors(unittest.TestCase):
    def test_base(self):
        self.assertEqual(errors.HourError.__bases__, (ValueError,))

    def test_each_is_directly_beneath(self):
        for name in ATTRIBUTES:
            self.assertEqual(getattr(errors, name).__bases__, (errors.HourError,), name)

    def test_there_are_no_others(self):
        names = {name for name, value in vars(errors).items() if inspect.isclass(value)}
        self.assertEqual(names, {"HourError", *ATTRIBUTES})

    def test_attributes_by_position(self):
        for name, attributes in ATTRIBUTES.items():
            args = [object() for _ in attributes]
            error = getattr(errors, name)(*args)
            for attribute, value in zip(attributes, args):
                self.assertIs(getattr(error, attribute), value, name)

    def test_attributes_by_name(self):
        for name, attributes in ATTRIBUTES.items():
            args = {attribute: object() for attribute in attributes}
            error = getattr(errors, name)(**args)
            for attribute, value in args.items():
                self.assertIs(getattr(error, attribute), value, name)

    def test_just_these_arguments(self):
        for name, attributes in ATTRIBUTES.items():
            if attributes:
                with self.assertRaises(TypeError):
                    getattr(errors, name)(*attributes, 1)
                with self.assertRaises(TypeError):
                    getattr(errors, name)()

    def test_caught_as_value_error(self):
        for name, attributes in ATTRIBUTES.items():
            with self.assertRaises(ValueError):
                raise getattr(errors, name)(*attributes)


if __name__ == "__main__":
    unittest.main()
