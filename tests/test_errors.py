"""The row "errors" of the interface."""

import unittest

from roundheap import errors
from kinds import odd_values

ATTRIBUTES = {
    "InvalidProgram": ("part", "at"), "InvalidText": ("line", "column"), "InvalidSpot": ("spot",),
    "NotReached": ("spot",), "Grown": ("spot",), "InvalidName": ("name",), "InvalidNumber": ("number",),
    "InvalidPlace": ("place",), "InvalidArgument": ("part",), "LimitExceeded": ("limit",),
}


class Errors(unittest.TestCase):
    def test_all_are_directly_under_the_first(self):
        self.assertEqual(errors.RunError.__bases__, (ArithmeticError,))
        for name in ATTRIBUTES:
            self.assertEqual(getattr(errors, name).__bases__, (errors.RunError,), name)
            self.assertEqual(getattr(errors, name).__module__, "roundheap.errors")

    def test_there_are_no_others(self):
        found = [name for name, value in vars(errors).items() if isinstance(value, type)]
        self.assertEqual(sorted(found), sorted(list(ATTRIBUTES) + ["RunError"]))

    def test_attributes_in_order(self):
        for name, attributes in ATTRIBUTES.items():
            values = [("worth", attribute) for attribute in attributes]
            made = getattr(errors, name)(*values)
            self.assertEqual([getattr(made, attribute) for attribute in attributes], values)
            named = getattr(errors, name)(**dict(zip(attributes, values)))
            self.assertEqual([getattr(named, attribute) for attribute in attributes], values)

    def test_attributes_of_any_kind(self):
        for name, attributes in ATTRIBUTES.items():
            for value in odd_values():
                made = getattr(errors, name)(*[value for _ in attributes])
                for attribute in attributes:
                    self.assertIs(getattr(made, attribute), value)

    def test_no_attribute_may_be_missing_or_too_many(self):
        for name, attributes in ATTRIBUTES.items():
            self.assertRaises(TypeError, getattr(errors, name))
            self.assertRaises(TypeError, getattr(errors, name), *[1 for _ in range(len(attributes) + 1)])

    def test_they_can_be_raised(self):
        for name, attributes in ATTRIBUTES.items():
            with self.assertRaises(errors.RunError):
                raise getattr(errors, name)(*attributes)


if __name__ == "__main__":
    unittest.main()
