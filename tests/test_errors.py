"""Points 9 and 10: the classes of errors."""

import unittest

from allteams import errors
from tests.support import ATTRIBUTES


class Errors(unittest.TestCase):
    def test_each_class_of_the_interface_is_there_and_no_other(self):
        there = [name for name, value in vars(errors).items() if isinstance(value, type)]
        self.assertEqual(sorted(there), sorted(["TeamError", *ATTRIBUTES]))

    def test_bases(self):
        self.assertEqual(errors.TeamError.__bases__, (ValueError,))
        for name in ATTRIBUTES:
            self.assertEqual(getattr(errors, name).__bases__, (errors.TeamError,), name)

    def test_attributes_have_the_values_that_were_passed(self):
        for name, attributes in ATTRIBUTES.items():
            values = [[name, at] for at in range(len(attributes))]
            error = getattr(errors, name)(*values)
            self.assertEqual(list(vars(error)), list(attributes), name)
            for attribute, value in zip(attributes, values):
                self.assertIs(getattr(error, attribute), value, name)

    def test_constructors_take_as_many_values_as_are_listed(self):
        for name, attributes in ATTRIBUTES.items():
            for many in (len(attributes) - 1, len(attributes) + 1) if attributes else ():
                with self.assertRaises(TypeError, msg=name):
                    getattr(errors, name)(*range(many))

    def test_any_value_can_be_told(self):
        for value in [None, True, -1, "x", [], (), {}, [[]], object()]:
            self.assertIs(errors.BadKind(value).value, value)
            self.assertIs(errors.Crowded(value).paper, value)

    def test_errors_can_be_caught_as_value_errors(self):
        with self.assertRaises(ValueError):
            raise errors.ShortRound(1, 2, 3)


if __name__ == "__main__":
    unittest.main()
