"""Points [3] to [6], [11] and [12]: standings, their bars and their texts."""

import inspect
import itertools
import unittest

from offerlists import standings
from offerlists.errors import InvalidLot, InvalidNumber, InvalidRows, InvalidText
from offerlists.houses import House
from offerlists.standings import ByKinds, ByNumber, ByWishes, Standing, read_standing
from offerlists.waiting import Waiting

SIGNS = [chr(code) for code in range(32, 127)] + ["\n"]
FLAT, GARDEN, BOTH = ("flat",), ("garden",), ("flat", "garden")
MINE = ByWishes(BOTH, ((FLAT, 2), (BOTH, 1)))


class LikeAll:
    """Equals everything, which nothing of the package does."""

    def __eq__(self, other):
        return True


OTHERS = (
    None, True, False, "", "flat", b"flat", [], ["flat"], [("flat", 1)], {}, {"flat": 1}, object(), LikeAll(), len,
    House(1, 1), House, MINE, ByWishes, Waiting(House(1, 1), ()), ValueError("x"),
)
NO_LOTS = OTHERS + (
    0, 1, (), ("flat", "flat"), ("garden", "flat"), ("a", "b", "c", "d", "e"), ("",), ("Flat",), ("1a",), ("a b",),
    ("abcdefghi",), ("a\n",), ("flat", None), (True,), ("a", "b", "a"), (("flat",),), (["flat"],), ("flat", ("garden",)),
    ("flat", LikeAll()), (LikeAll(), "flat"), (FLAT, 1), ("flat", 1), (House(1, 1),), ({"flat": 1},),
)
NO_NUMBERS = OTHERS + (0, 13, -1, 10 ** 39, "1", "one", (1,), [1], {1: 1})


def all_lots(kinds):
    return [lot for many in range(1, 5) for lot in itertools.combinations(kinds, many)]


def wrong_pairs(right, no_keys):
    """Values that are no pair of a key and a number from 1 to 12."""
    key, number = right
    yield from OTHERS
    yield from (0, 1, (), (key,), (number,), (key, number, number), (number, key), [key, number], {key: number})
    yield from (((key, number),), ((key, number), (key, number)), str(right))
    yield from [(wrong, number) for wrong in no_keys]
    yield from [(key, wrong) for wrong in NO_NUMBERS]


class Base(unittest.TestCase):
    def refused(self, error, told, call, *arguments, **more):
        """The call raises just this error; told is what is passed, or the index."""
        with self.assertRaises(error) as caught:
            call(*arguments, **more)
        self.assertIs(caught.exception.__class__, error)
        if error is InvalidRows:
            self.assertEqual(caught.exception.index, told)
            self.assertIs(caught.exception.index.__class__, told.__class__)
        else:
            self.assertIs(caught.exception.given, told)


class Interface(Base):
    def test_signatures(self):
        for made, names in ((ByWishes, ["wishes", "rows"]), (ByKinds, ["wishes", "many", "rows"]),
                            (ByNumber, ["wishes", "many"])):
            self.assertEqual(list(inspect.signature(made).parameters), names)
            self.assertEqual(list(inspect.signature(made.bar).parameters), ["self", "lot"])
            self.assertEqual(list(inspect.signature(made.weaker).parameters), ["self"])
            self.assertEqual(made.__bases__, (Standing,))
        self.assertEqual(list(inspect.signature(read_standing).parameters), ["text"])

    def test_each_class_defines_what_is_listed(self):
        for made in (Standing, ByWishes, ByKinds, ByNumber):
            self.assertEqual(made.__module__, "offerlists.standings")
            for name in ("wishes", "ahead", "bar", "weaker"):
                self.assertIn(name, vars(made))
        self.assertEqual(standings.read_standing.__module__, "offerlists.standings")

    def test_properties_are_not_set(self):
        for standing in (MINE, MINE.weaker(), MINE.weaker().weaker()):
            for name in ("wishes", "ahead"):
                with self.assertRaises(AttributeError):
                    setattr(standing, name, 1)


class Wishes(Base):
    def test_a_lot_of_one_to_four_kinds(self):
        for wishes in (("a",), ("a", "b"), ("a", "b", "c"), ("a", "b", "c", "d"), ("a0", "a1"), ("abcdefgh",)):
            for standing in (ByWishes(wishes, ()), ByKinds(wishes, 0, ()), ByNumber(wishes, 0)):
                self.assertEqual(standing.wishes, wishes)
                self.assertEqual(standing.ahead, 0)

    def test_no_lots(self):
        for wrong in NO_LOTS:
            self.refused(InvalidLot, wrong, ByWishes, wrong, ())
            self.refused(InvalidLot, wrong, ByWishes, rows=(), wishes=wrong)
            self.refused(InvalidLot, wrong, ByKinds, wrong, 0, ())
            self.refused(InvalidLot, wrong, ByKinds, many=0, rows=(), wishes=wrong)
            self.refused(InvalidLot, wrong, ByNumber, wrong, 0)
            self.refused(InvalidLot, wrong, ByNumber, many=0, wishes=wrong)

    def test_the_first_in_the_order_of_the_signature(self):
        self.refused(InvalidLot, None, ByWishes, None, None)
        self.refused(InvalidLot, None, ByWishes, rows=None, wishes=None)
        self.refused(InvalidLot, None, ByKinds, None, None, None)
        self.refused(InvalidLot, None, ByKinds, rows=None, many=None, wishes=None)
        self.refused(InvalidNumber, None, ByKinds, FLAT, None, None)
        self.refused(InvalidNumber, None, ByKinds, rows=None, many=None, wishes=FLAT)
        self.refused(InvalidLot, None, ByNumber, None, None)
        self.refused(InvalidLot, None, ByNumber, many=None, wishes=None)

    def test_what_is_passed_is_not_changed(self):
        for value in ([["flat"], 1], {"flat": [1]}):
            before = repr(value)
            for call in (lambda v: ByWishes(v, ()), lambda v: ByWishes(FLAT, (v,)), lambda v: ByKinds(FLAT, v, ()),
                         lambda v: ByKinds(FLAT, 1, v), lambda v: ByNumber(FLAT, v), MINE.bar, read_standing):
                with self.assertRaises(ValueError):
                    call(value)
            self.assertEqual(repr(value), before)


class RowsByWishes(Base):
    def test_by_position_and_by_name(self):
        rows = ((FLAT, 2), (BOTH, 1))
        for standing in (ByWishes(BOTH, rows), ByWishes(rows=rows, wishes=BOTH), ByWishes(BOTH, rows=rows)):
            self.assertEqual((standing.wishes, standing.ahead), (BOTH, 3))

    def test_numbers(self):
        for number in range(1, 13):
            self.assertEqual(ByWishes(FLAT, ((FLAT, number),)).ahead, number)
        rows = tuple([((f"k{at:02}",), 1) for at in range(12)])
        self.assertEqual(ByWishes(FLAT, rows).ahead, 12)

    def test_wrong_rows(self):
        for wrong in wrong_pairs((FLAT, 1), NO_LOTS):
            self.refused(InvalidRows, 0, ByWishes, FLAT, (wrong,))
            self.refused(InvalidRows, 0, ByWishes, FLAT, (wrong, None))
            self.refused(InvalidRows, 1, ByWishes, FLAT, ((("a",), 2), wrong, (BOTH, 1)))

    def test_no_tuples(self):
        for wrong in OTHERS + (0, 1, [(FLAT, 1)], {FLAT: 1}, iter(())):
            self.refused(InvalidRows, None, ByWishes, FLAT, wrong)
            self.refused(InvalidRows, None, ByWishes, rows=wrong, wishes=FLAT)

    def test_order_of_lots(self):
        lots = [("b",), ("c",), ("a", "c"), ("b", "c"), ("a", "b", "c"), ("a", "b", "c", "d")]
        self.assertEqual(ByWishes(FLAT, tuple([(lot, 1) for lot in lots])).ahead, 6)
        for one, other in itertools.product(range(6), range(6)):
            rows = ((lots[one], 1), (lots[other], 1))
            if one < other:
                self.assertEqual(ByWishes(FLAT, rows).ahead, 2)
            else:
                self.refused(InvalidRows, 1, ByWishes, FLAT, rows)
        self.refused(InvalidRows, 2, ByWishes, FLAT, ((("a",), 1), (("b",), 1), (("a",), 1), None))
        self.refused(InvalidRows, 1, ByWishes, FLAT, ((("b",), 1), (("a",), 13)))

    def test_twelve_ahead_and_one_more(self):
        self.assertEqual(ByWishes(FLAT, ((("a",), 11), (("b",), 1))).ahead, 12)
        self.refused(InvalidRows, 1, ByWishes, FLAT, ((("a",), 12), (("b",), 1)))
        self.refused(InvalidRows, 2, ByWishes, FLAT, ((("a",), 6), (("b",), 6), (("c",), 1), (("a",), 1)))
        self.refused(InvalidRows, 1, ByWishes, FLAT, ((("a",), 1), (("b",), 12), None))
        self.refused(InvalidRows, 0, ByWishes, FLAT, ((("a",), 13),))


class RowsByKinds(Base):
    def test_by_position_and_by_name(self):
        rows = (("flat", 2), ("house", 1))
        for standing in (ByKinds(FLAT, 3, rows), ByKinds(rows=rows, many=3, wishes=FLAT), ByKinds(FLAT, 3, rows=rows)):
            self.assertEqual((standing.wishes, standing.ahead), (FLAT, 3))

    def test_many(self):
        for many in range(13):
            rows = (("flat", many),) if many else ()
            self.assertEqual(ByKinds(FLAT, many, rows).ahead, many)
            self.assertEqual(ByNumber(FLAT, many).ahead, many)
        for wrong in OTHERS + (-1, 13, 10 ** 39, "3", (3,), [3], {3: 3}):
            self.refused(InvalidNumber, wrong, ByKinds, FLAT, wrong, ())
            self.refused(InvalidNumber, wrong, ByKinds, FLAT, rows=(), many=wrong)
            self.refused(InvalidNumber, wrong, ByNumber, FLAT, wrong)
            self.refused(InvalidNumber, wrong, ByNumber, many=wrong, wishes=FLAT)

    def test_wrong_rows(self):
        no_names = [wrong for wrong in NO_LOTS if not isinstance(wrong, str)] + ["", "Garden", "1a", "a b", "abcdefghi"]
        for wrong in wrong_pairs(("garden", 1), no_names):
            self.refused(InvalidRows, 0, ByKinds, FLAT, 12, (wrong,))
            self.refused(InvalidRows, 0, ByKinds, FLAT, 12, (wrong, None))
            self.refused(InvalidRows, 1, ByKinds, FLAT, 12, (("a", 2), wrong, ("z", 1)))
        for wrong in ((FLAT, 1), (BOTH, 1), (("flat", 1), 1)):
            self.refused(InvalidRows, 0, ByKinds, FLAT, 3, (wrong,))

    def test_no_tuples(self):
        for wrong in OTHERS + (0, 1, [("flat", 1)], {"flat": 1}, iter(())):
            self.refused(InvalidRows, None, ByKinds, FLAT, 1, wrong)
            self.refused(InvalidRows, None, ByKinds, rows=wrong, many=0, wishes=FLAT)

    def test_order_of_kinds(self):
        self.assertEqual(ByKinds(FLAT, 1, (("a", 1), ("a0", 1), ("aa", 1), ("b", 1))).ahead, 1)
        self.refused(InvalidRows, 1, ByKinds, FLAT, 2, (("a", 1), ("a", 1)))
        self.refused(InvalidRows, 1, ByKinds, FLAT, 2, (("b", 1), ("a", 1), ("a", 1)))
        self.refused(InvalidRows, 2, ByKinds, FLAT, 2, (("a", 1), ("c", 1), ("b", 1)))

    def test_no_number_is_greater_than_those_ahead(self):
        for many in range(13):
            for number in range(1, 14):
                rows = (("a", 1),) * (many > 0) + (("b", number),)
                if number > many:
                    self.refused(InvalidRows, len(rows) - 1, ByKinds, FLAT, many, rows)
                elif 1 + number >= many:
                    self.assertEqual(ByKinds(FLAT, many, rows).ahead, many)

    def test_the_sum_is_asked_last(self):
        self.refused(InvalidRows, None, ByKinds, FLAT, 1, ())
        self.refused(InvalidRows, None, ByKinds, FLAT, 3, (("a", 1), ("b", 1)))
        self.assertEqual(ByKinds(FLAT, 3, (("a", 1), ("b", 2))).ahead, 3)
        kinds = [f"k{at:02}" for at in range(49)]
        for many in range(1, 13):
            rows = tuple([(kind, 1) for kind in kinds[:4 * many]])
            self.assertEqual(ByKinds(FLAT, many, rows).ahead, many)
            more = rows + (("z", 1),)
            self.refused(InvalidRows, None, ByKinds, FLAT, many, more)
            self.refused(InvalidRows, 4 * many + 1, ByKinds, FLAT, many, more + (("z", 1),))
        self.refused(InvalidRows, 1, ByKinds, FLAT, 3, (("b", 1), ("a", 1)))
        self.refused(InvalidRows, 0, ByKinds, FLAT, 0, (("a", 1),))


def fitting(many, rows):
    """All rows of people of whom just so many wish each kind."""
    lots = all_lots([kind for kind, _ in rows])
    for people in itertools.combinations_with_replacement(lots, many):
        if all(sum(kind in lot for lot in people) == number for kind, number in rows):
            yield people


class Bars(Base):
    def test_the_example(self):
        self.assertEqual([MINE.bar(FLAT), MINE.bar(lot=GARDEN), MINE.bar(BOTH), MINE.ahead], [3, 1, 3, 3])

    def test_by_wishes_counts_those_ahead(self):
        lots = all_lots("abc")
        wishes = ("a", "b", "c", "d")
        for numbers in itertools.product((0, 1, 2), repeat=3):
            for chosen in itertools.combinations(lots, 3):
                rows = tuple([(lot, number) for lot, number in zip(chosen, numbers) if number])
                standing = ByWishes(wishes, rows)
                for lot in all_lots(wishes):
                    many = sum(number for other, number in rows if set(other) & set(lot))
                    self.assertEqual(standing.bar(lot), many)

    def test_by_kinds_is_the_greatest_of_all_that_fit(self):
        for many in range(4):
            for numbers in itertools.product(range(many + 1), repeat=3):
                rows = tuple([(kind, number) for kind, number in zip("abc", numbers) if number])
                if not many <= sum(numbers) <= 4 * many:
                    continue
                standing = ByKinds(("a", "b", "d"), many, rows)
                for lot in all_lots(("a", "b", "d")):
                    wishing = [sum(bool(set(lot) & set(one)) for one in people) for people in fitting(many, rows)]
                    self.assertEqual(standing.bar(lot), max(wishing))

    def test_by_kinds(self):
        standing = ByKinds(("a", "b", "d"), 3, (("a", 2), ("b", 2), ("c", 3)))
        self.assertEqual([standing.bar(lot) for lot in all_lots("abd")], [2, 2, 0, 3, 2, 2, 3])

    def test_by_number(self):
        for many in range(13):
            for lot in all_lots(("a", "b", "c", "d")):
                self.assertEqual(ByNumber(("a", "b", "c", "d"), many).bar(lot), many)

    def test_nobody_ahead(self):
        for standing in (ByWishes(BOTH, ()), ByKinds(BOTH, 0, ()), ByNumber(BOTH, 0)):
            self.assertEqual([standing.bar(lot) for lot in (FLAT, GARDEN, BOTH)], [0, 0, 0])

    def test_no_lots_of_kinds_of_the_wishes(self):
        for standing in (MINE, MINE.weaker(), MINE.weaker().weaker(), ByWishes(FLAT, ((GARDEN, 1),))):
            for wrong in NO_LOTS + (("house",), ("flat", "house"), ("a", "flat"), ("a", "flat", "garden")):
                self.refused(InvalidLot, wrong, standing.bar, wrong)
                self.refused(InvalidLot, wrong, standing.bar, lot=wrong)
        wrong = ("flat", "garden")
        self.refused(InvalidLot, wrong, ByNumber(FLAT, 2).bar, wrong)


class Weaker(Base):
    def test_by_kinds_what_is_told_by_wishes(self):
        self.assertEqual(MINE.weaker(), ByKinds(BOTH, 3, (("flat", 3), ("garden", 1))))
        rows = ((("z",), 2), (("a", "c"), 1), (("c", "z"), 3), (("a", "b", "c", "z"), 6))
        self.assertEqual(ByWishes(FLAT, rows).weaker(), ByKinds(FLAT, 12, (("a", 7), ("b", 6), ("c", 10), ("z", 11))))

    def test_by_number_what_is_told_by_kinds(self):
        self.assertEqual(ByKinds(BOTH, 3, (("flat", 3), ("garden", 1))).weaker(), ByNumber(BOTH, 3))

    def test_itself_by_number(self):
        standing = ByNumber(BOTH, 3)
        self.assertIs(standing.weaker(), standing)

    def test_nobody_ahead(self):
        self.assertEqual(ByWishes(BOTH, ()).weaker(), ByKinds(BOTH, 0, ()))
        self.assertEqual(ByKinds(BOTH, 0, ()).weaker(), ByNumber(BOTH, 0))

    def test_nothing_is_changed(self):
        standing = ByWishes(BOTH, ((FLAT, 2), (BOTH, 1)))
        standing.weaker().weaker().weaker()
        standing.bar(FLAT)
        self.assertEqual(standing, MINE)
        self.assertEqual(str(standing), str(MINE))


def every_kind():
    """Different standings, with their texts."""
    for wishes in (("flat",), ("garden",), ("flat", "garden"), ("a", "b", "c", "d0")):
        first = "wishes " + " ".join(wishes)
        yield ByWishes(wishes, ()), first
        yield ByWishes(wishes, ((FLAT, 12),)), first + "\nahead 12: flat"
        yield ByWishes(wishes, ((FLAT, 2), (BOTH, 1))), first + "\nahead 2: flat\nahead 1: flat garden"
        yield ByWishes(wishes, ((BOTH, 3), (("a", "b", "c", "d"), 1))), first + "\nahead 3: flat garden\nahead 1: a b c d"
        for many in range(13):
            yield ByNumber(wishes, many), f"{first}\nahead {many} people"
        yield ByKinds(wishes, 0, ()), first + "\nahead 0 people by kinds"
        yield ByKinds(wishes, 1, (("flat", 1),)), first + "\nahead 1 people\nwish 1: flat"
        yield ByKinds(wishes, 3, (("flat", 2), ("house", 1))), first + "\nahead 3 people\nwish 2: flat\nwish 1: house"
        yield ByKinds(wishes, 12, (("a", 12), ("b", 12))), first + "\nahead 12 people\nwish 12: a\nwish 12: b"


TEXTS = {text: standing for standing, text in every_kind()}


class Texts(Base):
    def test_texts_of_the_document(self):
        self.assertEqual(str(MINE), "wishes flat garden\nahead 2: flat\nahead 1: flat garden")
        self.assertEqual(str(ByKinds(FLAT, 3, (("flat", 2), ("house", 1)))),
                         "wishes flat\nahead 3 people\nwish 2: flat\nwish 1: house")
        self.assertEqual(str(ByNumber(FLAT, 3)), "wishes flat\nahead 3 people")
        self.assertEqual(str(MINE.weaker()), "wishes flat garden\nahead 3 people\nwish 3: flat\nwish 1: garden")

    def test_each_text_is_read(self):
        for text, standing in TEXTS.items():
            self.assertEqual(str(standing), text)
            for read in (read_standing(text), read_standing(text=text)):
                self.assertIs(read.__class__, standing.__class__)
                self.assertEqual((read, read.wishes, read.ahead), (standing, standing.wishes, standing.ahead))
                self.assertEqual(str(read), text)

    def test_many_rows(self):
        kinds = [f"k{at:02}" for at in range(48)]
        standing = ByKinds(FLAT, 12, tuple([(kind, 1) for kind in kinds]))
        self.assertEqual(read_standing(str(standing)), standing)
        standing = ByWishes(FLAT, tuple([((kind,), 1) for kind in kinds[:12]]))
        self.assertEqual(read_standing(str(standing)), standing)

    def read_or_refused(self, text):
        """A text is read as what has just this text, or refused."""
        try:
            standing = read_standing(text)
        except InvalidText as error:
            self.assertIs(error.given, text)
            self.assertNotIn(text, TEXTS)
            return
        self.assertEqual(str(standing), text)
        if text in TEXTS:
            self.assertEqual(standing, TEXTS[text])

    def test_a_character_more_less_or_other(self):
        for text in (str(MINE), "wishes flat\nahead 2 people\nwish 2: flat\nwish 1: house", "wishes flat\nahead 3 people",
                     "wishes flat\nahead 0 people by kinds", "wishes flat"):
            for at in range(len(text) + 1):
                self.read_or_refused(text[:at] + text[at + 1:])
                for sign in SIGNS:
                    self.read_or_refused(text[:at] + sign + text[at:])
                    self.read_or_refused(text[:at] + sign + text[at + 1:])

    def test_a_line_more_less_or_other(self):
        others = ("", " ", "wishes flat", "ahead 1: flat", "ahead 1: house", "ahead 12: flat", "ahead 3 people",
                  "ahead 0 people", "ahead 0 people by kinds", "ahead 3 people by kinds", "wish 1: flat", "wish 3: z")
        for text in (str(MINE), "wishes flat\nahead 3 people\nwish 2: flat\nwish 1: house", "wishes flat\nahead 3 people",
                     "wishes flat\nahead 0 people by kinds", "wishes flat"):
            lines = text.split("\n")
            for at in range(len(lines) + 1):
                self.read_or_refused("\n".join(lines[:at] + lines[at + 1:]))
                for line in others:
                    self.read_or_refused("\n".join(lines[:at] + [line] + lines[at:]))
                    self.read_or_refused("\n".join(lines[:at] + [line] + lines[at + 1:]))

    def test_texts_of_no_standing(self):
        for text in (
            "", "\n", " ", "wishes", "wishes ", "wishes\n", "wish flat", "wishes Flat", "wishes garden flat",
            "wishes flat flat", "wishes a b c d e", "wishes flat ", " wishes flat", "wishes  flat", "wishes flat\n",
            "\nwishes flat", "wishes flat\nahead 0: flat", "wishes flat\nahead 13: flat", "wishes flat\nahead 01: flat",
            "wishes flat\nahead +1: flat", "wishes flat\nahead 1 : flat", "wishes flat\nahead 1:flat",
            "wishes flat\nahead 1: ", "wishes flat\nahead 1:", "wishes flat\nahead 1: garden flat",
            "wishes flat\nahead 1: flat\nahead 1: flat", "wishes flat\nahead 1: flat garden\nahead 1: flat",
            "wishes flat\nahead 12: flat\nahead 1: garden", "wishes flat\nahead 13 people", "wishes flat\nahead -1 people",
            "wishes flat\nahead 03 people", "wishes flat\nahead 1 person", "wishes flat\nahead 3", "wishes flat\nahead",
            "wishes flat\nahead people", "wishes flat\nahead 0 people by kinds\nwish 1: flat", "wishes flat\n3 people",
            "wishes flat\nahead 1 people by kinds", "wishes flat\nahead 1 people by kinds\nwish 1: flat",
            "wishes flat\nahead 0 by kinds", "wishes flat\n0", "wishes flat\nahead 0 people\nwish 1: flat",
            "wishes flat\nahead 2 people\nwish 1: flat", "wishes flat\nahead 1 people\nwish 2: flat",
            "wishes flat\nahead 1 people\nwish 1: flat\nwish 1: flat", "wishes flat\nahead 1 people\nwish 1: b\nwish 1: a",
            "wishes flat\nahead 1 people\nwish 1: a\nwish 1: b\nwish 1: c\nwish 1: d\nwish 1: e",
            "wishes flat\nahead 1 people\nwish 1: flat garden", "wishes flat\nahead 1 people\n1: flat",
            "wishes flat\nahead 1 people\nwish 1", "wishes flat\nahead 1 people\n", "wishes flat\nwish 1: flat",
            "wishes flat\nahead 1 people\nahead 1: flat", "wishes flat\nahead 1: flat\nahead 1 people",
            "wishes flat\r\nahead 1: flat", "wishes flat; ahead 1: flat", "WISHES flat", "wishes fl\u00e4t",
            "wishes flat\nahead \u0661 people", repr(MINE), "wishes flat garden\nahead 1: flat\nahead 1: flat garden\n",
            "x" * 4000, "\n" * 4000,
        ):
            self.refused(InvalidText, text, read_standing, text)

    def test_no_strings(self):
        text = str(MINE)
        for value in OTHERS + (0, 1, (), (text,), [text], {text: text}, text.encode(), text.split("\n")):
            if not isinstance(value, str):
                self.refused(InvalidText, value, read_standing, value)
                self.refused(InvalidText, value, read_standing, text=value)

    def test_repr_for_all_numbers(self):
        for many in range(13):
            rows = ((FLAT, many),) if many else ()
            standing = ByWishes(FLAT, rows)
            self.assertEqual(repr(standing), f"Standing by wishes with {many} ahead")
            self.assertEqual(repr(standing.weaker()), f"Standing by kinds with {many} ahead")
            self.assertEqual(repr(standing.weaker().weaker()), f"Standing by number with {many} ahead")


class Equal(Base):
    def test_exactly_if_their_texts_are(self):
        self.assertEqual(len(TEXTS), 4 * 21)
        for text, standing in TEXTS.items():
            for other, like in TEXTS.items():
                self.assertIs(standing == read_standing(other), text == other)
                self.assertIs(standing != like, text != other)

    def test_each_part_counts(self):
        rows = (("a", 2), ("b", 1))
        for one, others in (
            (ByKinds(FLAT, 2, rows), (ByKinds(FLAT, 3, rows), ByKinds(BOTH, 2, rows), ByKinds(FLAT, 2, rows[:1]))),
            (ByWishes(FLAT, ((FLAT, 2),)), (ByWishes(FLAT, ((FLAT, 3),)), ByWishes(BOTH, ((FLAT, 2),)),
                                            ByWishes(FLAT, ((BOTH, 2),)), ByWishes(FLAT, ()))),
            (ByNumber(FLAT, 2), (ByNumber(FLAT, 3), ByNumber(BOTH, 2))),
        ):
            for other in others:
                self.assertTrue(one != other and not one == other)

    def test_itself(self):
        for standing in TEXTS.values():
            self.assertTrue(standing == standing and not standing != standing)

    def test_never_a_value_of_another_class(self):
        for standing in (MINE, MINE.weaker(), MINE.weaker().weaker()):
            for value in (str(standing), repr(standing), standing.wishes, 3, None, True, (), [], {}, Standing, object(),
                          LikeAll(), House(1, 1), Waiting(House(1, 1), ())):
                self.assertIs(standing == value, False)
                self.assertIs(standing != value, True)
        self.assertFalse(ByKinds(FLAT, 0, ()) == ByNumber(FLAT, 0))
        self.assertFalse(ByWishes(FLAT, ()) == ByNumber(FLAT, 0))

    def test_true(self):
        for standing in TEXTS.values():
            self.assertIs(bool(standing), True)


if __name__ == "__main__":
    unittest.main()
