"""The errors of the interface."""

import unittest

from openruns import errors

BASES = {
    "OpenError": LookupError,
    "InputError": errors.OpenError,
    "InvalidProgram": errors.InputError,
    "InvalidHistory": errors.InputError,
    "InvalidText": errors.InputError,
    "InvalidArgument": errors.InputError,
    "InvalidNote": errors.InputError,
    "RunError": errors.OpenError,
    "Falls": errors.RunError,
    "Breaks": errors.RunError,
    "NoRun": errors.RunError,
    "Taken": errors.RunError,
    "LimitExceeded": errors.OpenError,
}

ATTRIBUTES = {
    "InvalidProgram": ("part", "path"),
    "InvalidHistory": ("at",),
    "InvalidText": ("line",),
    "InvalidArgument": ("part",),
    "InvalidNote": ("at",),
    "Falls": ("word", "path"),
    "Breaks": ("at", "word"),
    "NoRun": ("name",),
    "Taken": ("name",),
    "LimitExceeded": ("limit",),
}


class ErrorsTest(unittest.TestCase):
    def test_every_class_is_defined_in_the_module_with_its_one_base(self):
        for name, base in BASES.items():
            with self.subTest(name):
                error = getattr(errors, name)
                self.assertEqual(error.__bases__, (base,))
                self.assertEqual(error.__module__, "openruns.errors")
                self.assertEqual(error.__name__, name)

    def test_no_class_is_a_base_of_another_one_except_as_listed(self):
        for name in BASES:
            for other in BASES:
                expected = {name}
                base = BASES[name]
                while base is not LookupError:
                    expected.add(base.__name__)
                    base = BASES[base.__name__]
                is_base = issubclass(getattr(errors, name), getattr(errors, other))
                self.assertEqual(is_base, other in expected, (name, other))

    def test_attributes_by_position_in_their_order(self):
        for name, attributes in ATTRIBUTES.items():
            with self.subTest(name):
                error = getattr(errors, name)(*[f"value {k}" for k in range(len(attributes))])
                told = [getattr(error, attribute) for attribute in attributes]
                self.assertEqual(told, [f"value {k}" for k in range(len(attributes))])

    def test_attributes_by_name(self):
        for name, attributes in ATTRIBUTES.items():
            with self.subTest(name):
                error = getattr(errors, name)(**{attribute: (attribute,) for attribute in attributes})
                for attribute in attributes:
                    self.assertEqual(getattr(error, attribute), (attribute,))

    def test_wrong_numbers_of_arguments(self):
        for name, attributes in ATTRIBUTES.items():
            with self.subTest(name):
                error = getattr(errors, name)
                self.assertRaises(TypeError, error, *range(len(attributes) - 1))
                self.assertRaises(TypeError, error, *range(len(attributes) + 1))

    def test_each_is_caught_as_its_base_classes(self):
        for name, attributes in ATTRIBUTES.items():
            with self.subTest(name):
                for base in (BASES[name], errors.OpenError, LookupError):
                    with self.assertRaises(base):
                        raise getattr(errors, name)(*range(len(attributes)))


if __name__ == "__main__":
    unittest.main()
