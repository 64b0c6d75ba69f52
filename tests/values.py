"""Values that several tests share: wrong ones of all kinds, standings of all sorts, and what fits them."""

import itertools
import re
import unittest
from collections import Counter

from offerlists.houses import House
from offerlists.standings import ByKinds, ByNumber, ByWishes
from offerlists.waiting import Waiting

FLAT, GARDEN, BOTH = ("flat",), ("garden",), ("flat", "garden")
FOUR = ("a", "b", "c", "d")
KINDS = ("flat", "garden", "tent")
WORDS = ("keep", "back", "out")
PLAIN = House(1, 1)
MINE = ByWishes(BOTH, ((FLAT, 2), (BOTH, 1)))


class LikeAll:
    """Equals everything, which nothing of the package does."""

    def __eq__(self, other):
        return True


class Touchy:
    """Cannot be compared with anything."""

    def __eq__(self, other):
        raise RuntimeError("compared")


OTHERS = (
    None, True, False, 0, 1, -1, 10 ** 39, "", "flat", "ann", b"flat", (), [], ["flat"], {}, {"flat": 1}, object(),
    LikeAll(), Touchy(), len, House, ByWishes, ByNumber, Waiting(PLAIN, ()), ValueError("x"), iter(()),
)
NO_HOUSES = OTHERS + (MINE, str(PLAIN), (1, 1), (PLAIN,), [PLAIN], {"wave": 1})
NO_STANDINGS = OTHERS + (PLAIN, str(MINE), (MINE,), [MINE], (BOTH, ((FLAT, 2), (BOTH, 1))))
NO_NAMES = tuple([value for value in OTHERS if not isinstance(value, str)]) + (
    "", "Flat", "1a", "a b", "flat ", "flat\n", "abcdefghi", "a" * 4000, ("flat",), (FLAT,), PLAIN, MINE,
)
# Pairs of places that are none, and the index of the first element that is not right.
NO_PLACES = tuple([(value, None) for value in OTHERS if not isinstance(value, tuple)]) + (
    ([("flat", 1)], None), ({"flat": 1}, None), ("flat 1", None), (PLAIN, None), (MINE, None),
    (("flat", 1), 0), ((["flat", 1],), 0), ((("flat",),), 0), ((("flat", 1, 1),), 0), (((1, "flat"),), 0),
    ((("flat", 0),), 0), ((("flat", 21),), 0), ((("flat", -1),), 0), ((("flat", True),), 0), ((("flat", None),), 0),
    ((("flat", "1"),), 0), ((("Flat", 1),), 0), (((FLAT, 1),), 0), (((LikeAll(), 1),), 0), ((("flat", LikeAll()),), 0),
    ((("flat", 1), ("flat", 1)), 1), ((("garden", 1), ("flat", 1)), 1), ((("flat", 1), None), 1),
    ((("flat", 1), LikeAll()), 1), ((("flat", 1), MINE, None), 1), ((("flat", 1), ("garden", 21)), 1),
    (tuple([(f"k{at}", 1) for at in range(7)]), 6), (tuple([(f"k{at}", 1) for at in range(6)] + [None]), 6),
    (tuple([(f"k{at}", 1) for at in range(8)] + [None]), 6), (tuple([(f"k{at}", 1) for at in range(4)] + [None] * 4), 4),
)
SIX = tuple([(f"k{at}", 20) for at in range(6)])


class Base(unittest.TestCase):
    def refused(self, error, told, call, *arguments, **more):
        """The call raises just this error, with just these attributes."""
        with self.assertRaises(error) as caught:
            call(*arguments, **more)
        self.assertIs(caught.exception.__class__, error)
        found = vars(caught.exception)
        self.assertEqual(list(found), list(told))
        for name in told:
            if name == "given":
                self.assertIs(found[name], told[name])
            else:
                self.assertEqual(found[name], told[name])
                self.assertIs(found[name].__class__, told[name].__class__)


def all_lots(kinds):
    return [lot for many in range(1, 5) for lot in itertools.combinations(kinds, many)]


def all_places(kinds, most):
    """All places of these kinds, with at most so many of each."""
    for numbers in itertools.product(range(most + 1), repeat=len(kinds)):
        yield tuple([(kind, number) for kind, number in zip(kinds, numbers) if number])


def all_houses():
    """Houses of each wave, the least and the greatest days, and all words."""
    for wave, days, silent, declined in itertools.product((1, 2, 3), (1, 2, 9), WORDS, WORDS):
        yield House(wave, days, silent, declined)


def told_rows(standing):
    """What the text of a standing tells, the numbers by the kinds."""
    rows = [re.fullmatch("(?:ahead|wish) ([0-9]+): (.*)", line) for line in str(standing).split("\n")[1:]]
    return {row[2]: int(row[1]) for row in rows if row}


def fits(standing, lots):
    """Whether people ahead with these wishes fit a standing: point [11]."""
    if len(lots) != standing.ahead:
        return False
    if isinstance(standing, ByWishes):
        return Counter([" ".join(lot) for lot in lots]) == Counter(told_rows(standing))
    if isinstance(standing, ByKinds):
        return Counter([kind for lot in lots for kind in lot]) == Counter(told_rows(standing))
    return True


def of_people(wishes, lots):
    """The standings of all three sorts that these people fit."""
    rows = sorted(Counter(lots).items(), key=lambda row: (len(row[0]), row[0]))
    first = ByWishes(wishes, tuple(rows))
    return (first, first.weaker(), first.weaker().weaker())


def small_standings():
    """Standings of all sorts with at most three ahead."""
    found = []
    for wishes in (FLAT, BOTH, KINDS):
        for many in range(4):
            for lots in itertools.combinations_with_replacement((FLAT, GARDEN, BOTH, ("tent",), KINDS), many):
                for standing in of_people(wishes, lots):
                    if str(standing) not in found:
                        found.append(str(standing))
                        yield standing


def some_standing(rng, kinds, wishes=None):
    """Any standing with wishes among these kinds and up to twelve ahead."""
    many = rng.choice((0, 1, 2, 5, 8, 11, 12))
    lots = rng.choice((all_lots(kinds), [lot for lot in all_lots(kinds) if len(lot) in (1, 4)], rng.sample(all_lots(kinds), 3)))
    people = [rng.choice(lots) for _ in range(many)]
    return rng.choice(of_people(wishes or rng.choice(all_lots(kinds)), people))


def some_unsure_places(rng, standing):
    """Any places that pass no bar, mostly as many as can be."""
    numbers = {}
    for _ in range(rng.choice((3, 12, 40))):
        kind = rng.choice(standing.wishes)
        more = {**numbers, kind: numbers.get(kind, 0) + 1}
        lots = [lot for lot in all_lots(standing.wishes) if kind in lot]
        if all(sum(more.get(one, 0) for one in lot) <= standing.bar(lot) for lot in lots):
            numbers = more
    return tuple(sorted(numbers.items()))
