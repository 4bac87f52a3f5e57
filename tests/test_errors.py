"""The classes of errors: attributes, bases, raising and catching."""

import unittest

from joinrounds import errors

BASES = {"NotRight": ValueError, "NotThere": LookupError, "CannotBe": ArithmeticError}
LISTED = {
    "InvalidText": ("NotRight", ("given",)),
    "InvalidCount": ("NotRight", ("given",)),
    "InvalidPlace": ("NotRight", ("given",)),
    "InvalidClaim": ("NotRight", ("given",)),
    "NotABook": ("NotRight", ("given",)),
    "InvalidPlans": ("NotRight", ("index",)),
    "InvalidPieces": ("NotRight", ("index",)),
    "UnknownPlan": ("NotThere", ("given",)),
    "TooLong": ("CannotBe", ("most",)),
    "IsOver": ("CannotBe", ()),
    "NothingToUndo": ("CannotBe", ()),
    "Broken": ("CannotBe", ("index", "shown")),
}
VALUES = (0, -3, 10 ** 39, True, "", "a text", None, (), (1, ("two", None)), ["x"], {"k": 1})


def listed():
    for name, (base, attributes) in LISTED.items():
        yield getattr(errors, name), getattr(errors, base), attributes


def values_for(attributes):
    """Tuples of values, the attributes of one tuple being different."""
    for at in range(len(VALUES)):
        yield tuple(VALUES[(at + k) % len(VALUES)] for k in range(len(attributes)))


class ErrorsTest(unittest.TestCase):

    def check_attributes(self, error, attributes, values):
        for attribute, value in zip(attributes, values):
            self.assertIs(getattr(error, attribute), value)
        self.assertEqual(sorted(vars(error)), sorted(attributes))

    def test_made_by_position(self):
        for made, base, attributes in listed():
            for values in values_for(attributes):
                with self.subTest(made=made.__name__, values=values):
                    self.check_attributes(made(*values), attributes, values)

    def test_made_by_name(self):
        for made, base, attributes in listed():
            for values in values_for(attributes):
                with self.subTest(made=made.__name__, values=values):
                    error = made(**dict(zip(attributes, values)))
                    self.check_attributes(error, attributes, values)

    def test_attributes_have_to_be_given(self):
        for made, base, attributes in listed():
            if attributes:
                with self.subTest(made=made.__name__):
                    self.assertRaises(TypeError, made)

    def test_what_is_passed_is_not_changed(self):
        held = ["x", ["y"]]
        self.assertIs(errors.InvalidText(held).given, held)
        self.assertEqual(held, ["x", ["y"]])

    def test_each_is_of_its_base_and_of_no_other_class_of_the_package(self):
        for made, base, attributes in listed():
            with self.subTest(made=made.__name__):
                own = [one for one in made.__mro__ if one.__module__.startswith("joinrounds")]
                self.assertEqual(own, [made, base])

    def test_each_base_is_of_its_builtin_class(self):
        for name, builtin in BASES.items():
            with self.subTest(name=name):
                self.assertEqual(getattr(errors, name).__bases__, (builtin,))

    def test_raised_and_caught_by_its_name_by_its_base_and_by_the_builtin(self):
        for made, base, attributes in listed():
            for caught in (made, base, base.__bases__[0]):
                with self.subTest(made=made.__name__, caught=caught.__name__):
                    error = made(*attributes)
                    with self.assertRaises(caught) as held:
                        raise error
                    self.assertIs(held.exception, error)

    def test_not_caught_by_another_base(self):
        for made, base, attributes in listed():
            for name in BASES:
                with self.subTest(made=made.__name__, name=name):
                    other = getattr(errors, name)
                    self.assertEqual(issubclass(made, other), other is base)

    def test_bases_can_be_raised(self):
        for name in BASES:
            with self.subTest(name=name):
                with self.assertRaises(getattr(errors, name)):
                    raise getattr(errors, name)()

    def test_the_module_defines_just_these(self):
        found = [name for name, value in vars(errors).items() if isinstance(value, type)]
        self.assertEqual(sorted(found), sorted([*LISTED, *BASES]))
        for name in found:
            self.assertEqual(getattr(errors, name).__module__, "joinrounds.errors")

    def test_an_error_equals_itself_alone(self):
        error = errors.InvalidText("x")
        self.assertTrue(error == error)
        self.assertFalse(error != error)
        self.assertTrue(error != errors.InvalidText("x"))
        self.assertFalse(error == "x")


if __name__ == "__main__":
    unittest.main()
