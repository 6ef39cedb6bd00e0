import unittest

from tests.expecting import NO_NUMBERS, NO_STRINGS
from wovenplaces import errors

# For each class: the class of the package under which it is listed, the one of Python's behind that, its attributes.
LISTED = {
    "WrongValue": (None, ValueError, ()),
    "InvalidNumber": ("WrongValue", ValueError, ("given",)),
    "InvalidName": ("WrongValue", ValueError, ("given",)),
    "InvalidSign": ("WrongValue", ValueError, ("given",)),
    "InvalidWord": ("WrongValue", ValueError, ("given",)),
    "InvalidText": ("WrongValue", ValueError, ("given",)),
    "InvalidExpression": ("WrongValue", ValueError, ("given",)),
    "InvalidWish": ("WrongValue", ValueError, ("given",)),
    "InvalidRounds": ("WrongValue", ValueError, ("given",)),
    "NotABook": ("WrongValue", ValueError, ("given",)),
    "NotPlaces": ("WrongValue", ValueError, ("given",)),
    "InvalidHanded": ("WrongValue", ValueError, ("index",)),
    "InvalidRows": ("WrongValue", ValueError, ("index",)),
    "InvalidExchanges": ("WrongValue", ValueError, ("index",)),
    "InvalidWishes": ("WrongValue", ValueError, ("index",)),
    "WrongState": (None, LookupError, ()),
    "UnknownName": ("WrongState", LookupError, ("given",)),
    "NothingToUndo": ("WrongState", LookupError, ()),
    "NoAnswer": (None, ArithmeticError, ()),
    "OpenRing": ("NoAnswer", ArithmeticError, ("name",)),
    "PartRing": ("NoAnswer", ArithmeticError, ("name",)),
    "TooManyParts": ("NoAnswer", ArithmeticError, ("many",)),
    "NotKept": ("NoAnswer", ArithmeticError, ("given",)),
    "Broken": ("NoAnswer", ArithmeticError, ("index", "shown")),
}


class Errors(unittest.TestCase):
    def test_classes_stand_in_their_file(self):
        for name in LISTED:
            with self.subTest(name):
                self.assertEqual(getattr(errors, name).__module__, "wovenplaces.errors")
                self.assertEqual(getattr(errors, name).__name__, name)

    def test_bases(self):
        for name, (base, behind, _) in LISTED.items():
            with self.subTest(name):
                above = getattr(errors, name).__mro__[1:]
                own = [one.__name__ for one in above if one.__module__.startswith("wovenplaces")]
                self.assertEqual(own, [base] if base else [])
                self.assertIs(above[len(own)], behind)
                for other in (ValueError, LookupError, ArithmeticError):
                    self.assertEqual(issubclass(getattr(errors, name), other), other is behind)

    def test_no_error_is_of_a_class_beside_it(self):
        for name, (base, _, attributes) in LISTED.items():
            made = getattr(errors, name)(*range(len(attributes)))
            for other in LISTED:
                with self.subTest(f"{name} and {other}"):
                    self.assertEqual(isinstance(made, getattr(errors, other)), other in (name, base))

    def test_made_by_position_and_by_name(self):
        for name, (_, _, attributes) in LISTED.items():
            values = [object() for _ in attributes]
            with self.subTest(name):
                by_position = getattr(errors, name)(*values)
                by_name = getattr(errors, name)(**dict(zip(attributes, values)))
                backwards = getattr(errors, name)(**dict(list(zip(attributes, values))[::-1]))
                for made in (by_position, by_name, backwards):
                    for attribute, value in zip(attributes, values):
                        self.assertIs(getattr(made, attribute), value)

    def test_attributes_may_be_anything(self):
        for name, (_, _, attributes) in LISTED.items():
            for value in NO_NUMBERS + NO_STRINGS if attributes else []:
                made = getattr(errors, name)(*[value for _ in attributes])
                named = getattr(errors, name)(**{attribute: value for attribute in attributes})
                for attribute in attributes:
                    self.assertIs(getattr(made, attribute), value)
                    self.assertIs(getattr(named, attribute), value)

    def test_raised_and_caught_by_each_of_its_classes(self):
        for name, (base, behind, attributes) in LISTED.items():
            for catching in (getattr(errors, name), getattr(errors, base) if base else behind, behind):
                with self.subTest(f"{name} by {catching.__name__}"):
                    with self.assertRaises(catching):
                        raise getattr(errors, name)(*attributes)

    def test_errors_are_equal_to_no_other_ones_and_true(self):
        for name, (_, _, attributes) in LISTED.items():
            one = getattr(errors, name)(*attributes)
            other = getattr(errors, name)(*attributes)
            self.assertTrue(one == one and one != other and not one == other and bool(one))


if __name__ == "__main__":
    unittest.main()
