"""Points [3] and [6]: integers, names, kinds and lots."""

import itertools
import unittest

from offerlists.basics import (
    is_integer, is_lot, is_name, is_number, is_pair, lot_order, lots_of, read_number, wrong_pair,
)
from offerlists.houses import House

OTHERS = (None, True, False, 0, 3, (), ("a", 1), ("a", None), [], ["flat"], {}, {"flat": 1}, b"flat", House(1, 1))


class Numbers(unittest.TestCase):
    def test_integers(self):
        self.assertTrue(all(is_integer(value) for value in (0, 1, -1, 10 ** 39, -10 ** 39)))
        for value in (None, True, False, "1", b"1", (1,), [1], {1: 1}, House(1, 1)):
            self.assertFalse(is_integer(value), value)

    def test_bounds(self):
        self.assertEqual([n for n in range(-3, 12) if is_number(n, 1, 9)], list(range(1, 10)))
        self.assertTrue(is_number(0, 0, 12))
        self.assertFalse(is_number(10 ** 39, 0, 12))

    def test_true_and_false_are_none(self):
        self.assertFalse(is_number(True, 0, 12))
        self.assertFalse(is_number(False, 0, 12))

    def test_other_values(self):
        for value in (None, "1", b"1", (1,), [1], {1: 1}, House(1, 1)):
            self.assertFalse(is_number(value, 0, 12), value)

    def test_read(self):
        self.assertEqual([read_number(str(n), 1, 12) for n in range(14)], [None, *range(1, 13), None])
        self.assertEqual(read_number("0", 0, 12), 0)
        for word in ("", "00", "01", "+1", "-1", " 1", "1 ", "1\n", "1_0", "one", "True", "1.0", "\u0661"):
            self.assertIsNone(read_number(word, 0, 12), word)


class Names(unittest.TestCase):
    def test_names(self):
        for name in ("a", "z", "flat", "a0", "a9z", "abcdefgh", "a1234567"):
            self.assertTrue(is_name(name), name)

    def test_each_sign_in_the_first_place_and_behind(self):
        letters, digits = "abcdefghijklmnopqrstuvwxyz", "0123456789"
        for sign in [chr(code) for code in range(32, 127)] + ["\n", "\t", "\u00e9", "\u0661"]:
            self.assertEqual(is_name(sign), sign in letters, sign)
            self.assertEqual(is_name("a" + sign), sign in letters + digits, sign)
            self.assertEqual(is_name("a" + sign + "b"), sign in letters + digits, sign)

    def test_lengths(self):
        self.assertFalse(is_name(""))
        self.assertFalse(is_name("abcdefghi"))
        self.assertFalse(is_name("a" * 4000))

    def test_other_values(self):
        for value in OTHERS:
            self.assertFalse(is_name(value), value)


class Lots(unittest.TestCase):
    def test_lots(self):
        kinds = ("a", "b", "c", "d")
        for length in range(1, 5):
            for lot in itertools.combinations(kinds, length):
                self.assertTrue(is_lot(lot), lot)

    def test_not_ascending_or_twice(self):
        for lot in (("b", "a"), ("a", "a"), ("a", "c", "b"), ("a", "b", "b"), ("a1", "a"), ("b", "c", "a")):
            self.assertFalse(is_lot(lot), lot)
        self.assertTrue(is_lot(("a", "a1", "ab", "b")))

    def test_none_and_five(self):
        self.assertFalse(is_lot(()))
        self.assertFalse(is_lot(("a", "b", "c", "d", "e")))

    def test_no_names_within(self):
        for wrong in OTHERS + ("", "A", "a b", "abcdefghi"):
            self.assertFalse(is_lot((wrong,)), wrong)
            self.assertFalse(is_lot(("a", wrong)), wrong)
            self.assertFalse(is_lot((wrong, "z")), wrong)

    def test_other_values(self):
        for value in OTHERS + ("flat", ["a", "b"]):
            self.assertFalse(is_lot(value), value)

    def test_order(self):
        lots = [("b", "c"), ("c",), ("a", "b", "c"), ("a", "z"), ("a",), ("ab",), ("a", "c")]
        self.assertEqual(sorted(lots, key=lot_order), [
            ("a",), ("ab",), ("c",), ("a", "c"), ("a", "z"), ("b", "c"), ("a", "b", "c"),
        ])

    def test_all_lots_of_some_kinds(self):
        self.assertEqual(lots_of(("a",)), [("a",)])
        self.assertEqual(lots_of(("a", "b", "c")), [
            ("a",), ("b",), ("c",), ("a", "b"), ("a", "c"), ("b", "c"), ("a", "b", "c"),
        ])
        kinds = ("a", "b", "c", "d")
        every = [lot for length in range(1, 5) for lot in itertools.combinations(kinds, length)]
        self.assertEqual(lots_of(kinds), every)


class Pairs(unittest.TestCase):
    def test_pairs(self):
        self.assertTrue(is_pair((1, 2)) and is_pair((None, ())))
        for value in OTHERS + ((1,), (1, 2, 3), [1, 2], {1: 1, 2: 2}, "ab", b"ab"):
            self.assertEqual(is_pair(value), value in (("a", 1), ("a", None)), value)

    def test_the_first_that_is_not_right(self):
        self.assertIsNone(wrong_pair((), 9))
        self.assertIsNone(wrong_pair((("a", 1), ("b", 9), ("b0", 1)), 9))
        for index, pairs in ((0, (("a", 0),)), (0, (("a", 10), None)), (1, (("a", 1), ("a", 1))), (1, (("b", 1), ("a", 0))),
                             (2, (("a", 1), ("c", 1), ("b", 1))), (1, (("a", 9), ("B", 9))), (0, (None,)), (0, ((1, "a"),))):
            self.assertEqual(wrong_pair(pairs, 9), index, pairs)


if __name__ == "__main__":
    unittest.main()
