"""Points [3] and [4]: the classes of errors, their bases and their attributes."""

import inspect
import unittest

from offerlists import errors
from offerlists.houses import House

GIVEN = ("given",)
INDEX = ("index",)
BASES = {"NotRight": ValueError, "NotThere": LookupError, "CannotBe": ArithmeticError}
LISTED = {
    "NotRight": {
        "InvalidName": GIVEN, "InvalidWave": GIVEN, "InvalidDays": GIVEN, "InvalidWord": GIVEN,
        "InvalidLot": GIVEN, "InvalidNumber": GIVEN, "InvalidText": GIVEN, "InvalidPlace": GIVEN,
        "InvalidClaim": GIVEN, "NotAHouse": GIVEN, "NotAStanding": GIVEN,
        "InvalidEntries": INDEX, "InvalidEvents": INDEX, "InvalidRows": INDEX,
        "InvalidPlaces": INDEX, "InvalidPromises": INDEX,
    },
    "NotThere": {"UnknownName": GIVEN, "Unwished": GIVEN},
    "CannotBe": {
        "OtherWishes": (), "TooManyAhead": ("many",), "InUse": INDEX, "NothingToUndo": (),
        "Broken": ("index", "shown"),
    },
}
ROWS = [(base, name, told) for base, names in LISTED.items() for name, told in names.items()]
ANYTHING = (
    None, True, False, 0, -1, 10 ** 39, "", "keep", "a\nb", b"a", (), (1, (2, "x")), [], [1], {}, {"a": 1},
    {1, 2}, object(), House(1, 1), House, ValueError("x"), errors.InvalidName(3), len,
)


class Classes(unittest.TestCase):
    def test_each_stands_under_just_the_class_it_is_listed_under(self):
        for name, python in BASES.items():
            self.assertEqual(getattr(errors, name).__bases__, (python,))
        for base, name, _ in ROWS:
            with self.subTest(name=name):
                self.assertEqual(getattr(errors, name).__bases__, (getattr(errors, base),))

    def test_none_is_of_another_class_of_the_package(self):
        every = [name for _, name, _ in ROWS]
        for base, name, _ in ROWS:
            for other in every + list(BASES):
                under = issubclass(getattr(errors, name), getattr(errors, other))
                self.assertEqual(under, other in (name, base), (name, other))

    def test_they_are_defined_in_their_file_and_no_others_are_there(self):
        found = [name for name, value in vars(errors).items() if inspect.isclass(value)]
        self.assertEqual(sorted(found), sorted(list(BASES) + [name for _, name, _ in ROWS]))
        for name in found:
            self.assertEqual(getattr(errors, name).__module__, "offerlists.errors")


class Attributes(unittest.TestCase):
    def test_by_position_and_by_name_whatever_they_are(self):
        for _, name, told in ROWS:
            for value in ANYTHING:
                worths = [value, (name, value)][:len(told)]
                made = getattr(errors, name)
                for error in (made(*worths), made(**dict(zip(told, worths)))):
                    with self.subTest(name=name, value=value):
                        self.assertEqual(list(vars(error)), list(told))
                        for attribute, worth in zip(told, worths):
                            self.assertIs(getattr(error, attribute), worth)

    def test_the_order_of_two_attributes(self):
        for error in (errors.Broken(3, ()), errors.Broken(3, shown=()), errors.Broken(shown=(), index=3)):
            self.assertEqual((error.index, error.shown), (3, ()))

    def test_attributes_are_needed(self):
        for _, name, told in ROWS:
            if told:
                with self.assertRaises(TypeError):
                    getattr(errors, name)()

    def test_base_classes_have_no_attributes(self):
        for name in BASES:
            self.assertEqual(vars(getattr(errors, name)()), {})

    def test_what_is_passed_is_not_changed(self):
        value = {"a": [1, 2]}
        errors.InvalidName(value)
        errors.Broken(value, value)
        self.assertEqual(value, {"a": [1, 2]})


class Raised(unittest.TestCase):
    def test_each_can_be_raised_and_caught_by_its_bases(self):
        for base, name, told in ROWS:
            for caught in (name, base):
                with self.assertRaises(getattr(errors, caught)):
                    raise getattr(errors, name)(*told)
            with self.assertRaises(BASES[base]):
                raise getattr(errors, name)(*told)

    def test_equal_itself_alone_and_true(self):
        for _, name, told in ROWS:
            error, like = getattr(errors, name)(*told), getattr(errors, name)(*told)
            self.assertTrue(error == error and not error != error)
            self.assertTrue(error != like and not error == like)
            self.assertTrue(error)


if __name__ == "__main__":
    unittest.main()
