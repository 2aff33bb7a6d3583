"""Point 4: the error classes."""

import inspect
import unittest

from overpasses import errors
from overpasses.errors import OverpassesError

NAMES = [
    "BadLine", "BadPlace", "BadPrice", "WrongOrder", "NoLink", "NoPlace",
    "NotAnOrder", "NoPair", "NothingToUndo", "OutOfRange", "NoTurn",
]
INTEGERS = [0, 1, 39, 40, -1, -7, 2 ** 32 - 1, 2 ** 64, 10 ** 5000, -10 ** 5000]


def direct_classes():
    return [getattr(errors, name) for name in NAMES]


class Errors(unittest.TestCase):
    def test_the_module_has_exactly_these_classes(self):
        found = {name for name, value in vars(errors).items() if inspect.isclass(value)}
        self.assertEqual(found, set(NAMES) | {"OverpassesError"})

    def test_each_class_is_defined_in_the_module(self):
        for cls in direct_classes() + [OverpassesError]:
            self.assertEqual(cls.__module__, "overpasses.errors")

    def test_the_integer_is_the_attribute_at(self):
        for cls in direct_classes() + [OverpassesError]:
            for at in INTEGERS:
                with self.subTest(cls=cls.__name__):
                    self.assertEqual(cls(at).at, at)

    def test_at_is_the_only_attribute(self):
        for cls in direct_classes() + [OverpassesError]:
            self.assertEqual(vars(cls(3)), {"at": 3})

    def test_each_is_an_overpasses_error_and_a_value_error(self):
        for cls in direct_classes() + [OverpassesError]:
            with self.subTest(cls=cls.__name__):
                self.assertIsInstance(cls(0), OverpassesError)
                self.assertIsInstance(cls(0), ValueError)
                with self.assertRaises(OverpassesError):
                    raise cls(0)

    def test_each_is_directly_below_the_base_class(self):
        self.assertEqual(OverpassesError.__bases__, (ValueError,))
        for cls in direct_classes():
            self.assertEqual(cls.__bases__, (OverpassesError,))

    def test_none_is_a_base_class_of_another_one(self):
        for cls in direct_classes():
            for other in direct_classes():
                self.assertEqual(issubclass(cls, other), cls is other)


if __name__ == "__main__":
    unittest.main()
