"""Points [3] and [6]: integers, names, kinds and lots."""

import itertools
import unittest

from offerlists.basics import is_lot, is_name, is_number, lot_order, read_number
from offerlists.houses import House

OTHERS = (None, True, False, 0, 3, (), ("a", 1), ("a", None), [], ["flat"], {}, {"flat": 1}, b"flat", House(1, 1))


class Numbers(unittest.TestCase):
    def test_bounds(self):
        self.assertEqual([n for n in range(-3, 12) if is_number(n, 1, 9)], list(range(1, 10)))
        self.assertTrue(is_number(0, 0, 12))
        self.assertFalse(is_number(10 ** 39, 0, 12))

    def test_true_and_false_are_none(self):
        self.assertFalse(is_number(True, 0, 12))
        self.assertFalse(is_number(False, 0, 12))

    def test_other_values(self):
        for value in (None, "1", b"1", (1,), [1], {1: 1}, House(1, 1)):
            self.assertFalse(is_number(value, 0, 12), value)

    def test_read(self):
        self.assertEqual([read_number(str(n), 1, 12) for n in range(14)], [None, *range(1, 13), None])
        self.assertEqual(read_number("0", 0, 12), 0)
        for word in ("", "00", "01", "+1", "-1", " 1", "1 ", "1\n", "1_0", "one", "True", "1.0", "\u0661"):
            self.assertIsNone(read_number(word, 0, 12), word)


class Names(unittest.TestCase):
    def test_names(self):
        for name in ("a", "z", "flat", "a0", "a9z", "abcdefgh", "a1234567"):
            self.assertTrue(is_name(name), name)

    def test_each_sign_in_the_first_place_and_behind(self):
        letters, digits = "abcdefghijklmnopqrstuvwxyz", "0123456789"
        for sign in [chr(code) for code in range(32, 127)] + ["\n", "\t", "\u00e9", "\u0661"]:
            self.assertEqual(is_name(sign), sign in letters, sign)
            self.assertEqual(is_name("a" + sign), sign in letters + digits, sign)
            self.assertEqual(is_name("a" + sign + "b"), sign in letters + digits, sign)

    def test_lengths(self):
        self.assertFalse(is_name(""))
        self.assertFalse(is_name("abcdefghi"))
        self.assertFalse(is_name("a" * 4000))

    def test_other_values(self):
        for value in OTHERS:
            self.assertFalse(is_name(value), value)


class Lots(unittest.TestCase):
    def test_lots(self):
        kinds = ("a", "b", "c", "d")
        for length in range(1, 5):
            for lot in itertools.combinations(kinds, length):
                self.assertTrue(is_lot(lot), lot)

    def test_not_ascending_or_twice(self):
        for lot in (("b", "a"), ("a", "a"), ("a", "c", "b"), ("a", "b", "b"), ("a1", "a"), ("b", "c", "a")):
            self.assertFalse(is_lot(lot), lot)
        self.assertTrue(is_lot(("a", "a1", "ab", "b")))

    def test_none_and_five(self):
        self.assertFalse(is_lot(()))
        self.assertFalse(is_lot(("a", "b", "c", "d", "e")))

    def test_no_names_within(self):
        for wrong in OTHERS + ("", "A", "a b", "abcdefghi"):
            self.assertFalse(is_lot((wrong,)), wrong)
            self.assertFalse(is_lot(("a", wrong)), wrong)
            self.assertFalse(is_lot((wrong, "z")), wrong)

    def test_other_values(self):
        for value in OTHERS + ("flat", ["a", "b"]):
            self.assertFalse(is_lot(value), value)

    def test_order(self):
        lots = [("b", "c"), ("c",), ("a", "b", "c"), ("a", "z"), ("a",), ("ab",), ("a", "c")]
        self.assertEqual(sorted(lots, key=lot_order), [
            ("a",), ("ab",), ("c",), ("a", "c"), ("a", "z"), ("b", "c"), ("a", "b", "c"),
        ])


if __name__ == "__main__":
    unittest.main()
