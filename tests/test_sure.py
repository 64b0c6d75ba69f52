"""Points [3] to [5], [13] and [14]: when a standing is sure, and least places."""

import inspect
import itertools
import random
import unittest

from offerlists import sure as module
from offerlists.errors import InvalidLot, InvalidPlaces, InvalidPromises, NotAStanding
from offerlists.houses import House
from offerlists.standings import ByKinds, ByNumber, ByWishes, Standing
from offerlists.sure import enough, fewest, least_places, reason, sure, sure_day
from offerlists.waiting import Waiting

FLAT, GARDEN, BOTH = ("flat",), ("garden",), ("flat", "garden")
FOUR = ("a", "b", "c", "d")
MINE = ByWishes(BOTH, ((FLAT, 2), (BOTH, 1)))


class LikeAll:
    """Equals everything, which nothing of the package does."""

    def __eq__(self, other):
        return True


OTHERS = (
    None, True, False, "", "flat", b"flat", [], ["flat"], {}, {"flat": 1}, object(), LikeAll(), len, House(1, 1), House,
    Waiting(House(1, 1), ()), ValueError("x"), 0, 1, -1, 10 ** 39,
)
NO_NAMES = tuple([value for value in OTHERS if value.__class__ is not str]) + (
    "", "Flat", "1a", "a b", "flat ", "abcdefghi", (), FLAT, ("flat", 1),
)
NO_LOTS = OTHERS + ((), ("flat", "flat"), ("garden", "flat"), ("a", "b", "c", "d", "e"), ("Flat",), (None,), (True,),
                    ("flat", 1), (FLAT,), (("flat", 1),), (LikeAll(),), (MINE,))
SEVEN = tuple([(f"k{at}", 1) for at in range(7)])


def all_lots(kinds):
    return [lot for many in range(1, 5) for lot in itertools.combinations(kinds, many)]


def all_places(kinds, most):
    """All places of these kinds, with at most so many of each."""
    for numbers in itertools.product(range(most + 1), repeat=len(kinds)):
        yield tuple([(kind, number) for kind, number in zip(kinds, numbers) if number])


def total(places, kinds):
    return sum(number for kind, number in places if kind in kinds)


def can_all_be_given(kinds, people):
    """Whether places of these kinds can all be given to different people who wish them."""
    if not kinds:
        return True
    rest = [people[:at] + people[at + 1:] for at, lot in enumerate(people) if kinds[0] in lot]
    return any(can_all_be_given(kinds[1:], others) for others in rest)


def fitting(standing, kinds):
    """All people that fit a small standing, over these kinds."""
    for people in itertools.combinations_with_replacement(all_lots(kinds), standing.ahead):
        named = tuple([(f"p{at}", lot) for at, lot in enumerate(people)]) + (("me", standing.wishes),)
        known = Waiting(House(1, 1), named).standing("me")
        if standing in (known, known.weaker(), known.weaker().weaker()):
            yield people


def sure_by_its_meaning(standing, places, kinds):
    """Whether the places of the wishes cannot all be given ahead, whoever fits."""
    wished = [kind for kind, number in places if kind in standing.wishes for _ in range(number)]
    return not any(can_all_be_given(wished, people) for people in fitting(standing, kinds))


SMALL = (
    ByWishes(BOTH, ()), ByKinds(BOTH, 0, ()), ByNumber(BOTH, 0), MINE, MINE.weaker(), MINE.weaker().weaker(),
    ByWishes(FLAT, ((GARDEN, 3),)), ByWishes(BOTH, ((FLAT, 1), (GARDEN, 1), (("tent",), 1))),
    ByKinds(BOTH, 2, (("flat", 1), ("garden", 2))), ByKinds(BOTH, 3, (("flat", 1), ("garden", 1), ("tent", 2))),
    ByKinds(FLAT, 2, (("flat", 1), ("tent", 2))), ByKinds(BOTH, 3, (("flat", 3), ("garden", 3), ("tent", 3))),
    ByWishes(("flat", "garden", "tent"), ((FLAT, 1), (("tent",), 1), (("garden", "tent"), 1))),
    ByKinds(("flat", "garden", "tent"), 3, (("flat", 2), ("garden", 1), ("tent", 2))),
    ByNumber(("flat", "garden", "tent"), 2), ByNumber(("garden", "tent"), 3),
)
KINDS = ("flat", "garden", "tent")


class Base(unittest.TestCase):
    def refused(self, error, told, call, *arguments, **more):
        with self.assertRaises(error) as caught:
            call(*arguments, **more)
        self.assertIs(caught.exception.__class__, error)
        if error in (InvalidPlaces, InvalidPromises):
            self.assertEqual(caught.exception.index, told)
            self.assertIs(caught.exception.index.__class__, told.__class__)
        else:
            self.assertIs(caught.exception.given, told)


class Interface(Base):
    def test_signatures(self):
        for call, names in ((sure, ["standing", "places"]), (reason, ["standing", "places"]), (least_places, ["standing"]),
                            (fewest, ["standing", "lot"]), (enough, ["standing", "lot"]),
                            (sure_day, ["standing", "promises"])):
            self.assertEqual(list(inspect.signature(call).parameters), names)
            self.assertEqual(call.__module__, "offerlists.sure")
        self.assertIs(module.sure, sure)

    def test_by_name(self):
        places = (("flat", 4),)
        self.assertIs(sure(places=places, standing=MINE), True)
        self.assertEqual(reason(places=places, standing=MINE), FLAT)
        self.assertEqual(least_places(standing=ByNumber(FLAT, 0)), ((("flat", 1),),))
        self.assertEqual(fewest(lot=BOTH, standing=MINE), 2)
        self.assertEqual(enough(lot=BOTH, standing=MINE), 4)
        self.assertEqual(sure_day(promises=(("flat", 1),), standing=MINE), 4)


class Document(Base):
    def test_the_example(self):
        self.assertEqual([least_places(MINE), reason(MINE, (("flat", 3), ("garden", 1)))], [
            ((("flat", 4),), (("garden", 2),), (("flat", 3), ("garden", 1))), BOTH,
        ])
        self.assertEqual([fewest(MINE, BOTH), enough(MINE, BOTH), enough(MINE, ("flat", "house")),
                          sure_day(MINE, (("flat", 7), ("garden", 10)))], [2, 4, None, 20])
        self.assertEqual(least_places(MINE.weaker().weaker()), (
            (("flat", 4),), (("garden", 4),), (("flat", 1), ("garden", 3)), (("flat", 2), ("garden", 2)),
            (("flat", 3), ("garden", 1)),
        ))


class Wrong(Base):
    CALLS = (sure, reason, least_places, fewest, enough, sure_day)

    def test_no_standings(self):
        for wrong in OTHERS + (str(MINE), (BOTH, ()), BOTH, Standing, ByWishes):
            for call in (sure, reason, fewest, enough, sure_day):
                self.refused(NotAStanding, wrong, call, wrong, None)
                self.refused(NotAStanding, wrong, call, wrong, ())
            self.refused(NotAStanding, wrong, least_places, wrong)
            self.refused(NotAStanding, wrong, sure, places=None, standing=wrong)
            self.refused(NotAStanding, wrong, fewest, lot=None, standing=wrong)
            self.refused(NotAStanding, wrong, sure_day, promises=None, standing=wrong)

    def both(self, index, pairs):
        """Neither places nor promises, with the same index."""
        self.refused(InvalidPlaces, index, sure, MINE, pairs)
        self.refused(InvalidPlaces, index, reason, MINE, places=pairs)
        self.refused(InvalidPromises, index, sure_day, MINE, pairs)
        self.refused(InvalidPromises, index, sure_day, MINE, promises=pairs)

    def test_no_tuples(self):
        for wrong in OTHERS + (MINE, [("flat", 1)], {"flat": 1}, iter(())):
            self.both(None, wrong)

    def test_no_pairs(self):
        for wrong in OTHERS + (MINE, (), ("flat",), ("flat", 1, 1), (1, "flat"), ["flat", 1], (("flat", 1),), "flat 1"):
            self.both(0, (wrong,))
            self.both(1, (("a", 1), wrong, None))

    def test_no_names(self):
        for wrong in NO_NAMES:
            self.both(0, ((wrong, 1),))
            self.both(1, (("a", 1), (wrong, 1), ("z", 1)))

    def test_numbers(self):
        for number in range(1, 21):
            self.assertIs(sure(MINE, (("flat", number),)), number > 3)
        for wrong in tuple([value for value in OTHERS if value != 1]) + ("1", (1,), 21, 0, -1, LikeAll(), True):
            self.refused(InvalidPlaces, 0, sure, MINE, (("flat", wrong),))
            self.refused(InvalidPlaces, 1, reason, MINE, (("flat", 20), ("garden", wrong), None))

    def test_promised_days(self):
        for days in range(1, 100):
            self.assertEqual(sure_day(MINE, (("flat", days),)), 4 * days)
        for wrong in tuple([value for value in OTHERS if value != 1]) + ("1", (1,), 100, 0, -1, LikeAll(), True):
            self.refused(InvalidPromises, 0, sure_day, MINE, (("flat", wrong),))
            self.refused(InvalidPromises, 1, sure_day, MINE, (("flat", 99), ("garden", wrong), None))

    def test_order(self):
        for pairs in ((("flat", 1), ("flat", 1)), (("garden", 1), ("flat", 1)), (("a1", 1), ("a", 1))):
            self.both(1, pairs)
        self.both(2, (("a", 1), ("c", 1), ("b", 1), ("a", 1)))

    def test_six_and_one_more(self):
        self.assertIs(sure(MINE, SEVEN[:6]), False)
        self.assertIsNone(sure_day(MINE, SEVEN[:6]))
        self.both(6, SEVEN)
        self.both(6, SEVEN + (("z", 1),))
        self.both(6, SEVEN[:6] + (None,))
        self.both(5, SEVEN[:5] + (None, None))

    def test_no_lots(self):
        for call in (fewest, enough):
            for wrong in NO_LOTS:
                self.refused(InvalidLot, wrong, call, MINE, wrong)
                self.refused(InvalidLot, wrong, call, MINE, lot=wrong)

    def test_what_is_passed_is_not_changed(self):
        for value in ([("flat", [1])], {"flat": [1]}):
            before = repr(value)
            for call in (sure, reason, fewest, enough, sure_day):
                with self.assertRaises(ValueError):
                    call(MINE, value)
                with self.assertRaises(ValueError):
                    call(MINE, (value,))
            self.assertEqual(repr(value), before)


class Sure(Base):
    def test_exactly_by_its_meaning(self):
        for standing in SMALL:
            for places in all_places(KINDS, 3):
                with self.subTest(standing=str(standing), places=places):
                    self.assertIs(sure(standing, places), sure_by_its_meaning(standing, places, KINDS))

    def test_the_first_reason(self):
        for standing in SMALL + (ByNumber(FOUR, 2), ByWishes(FOUR, ((("c",), 1), (("d",), 3), (("a", "b"), 2)))):
            for places in all_places(standing.wishes, 3 if len(standing.wishes) == 4 else 5):
                lots = [lot for lot in all_lots(standing.wishes) if total(places, lot) > standing.bar(lot)]
                self.assertEqual(reason(standing, places), lots[0] if lots else None)
                self.assertIs(sure(standing, places), bool(lots))

    def test_no_places(self):
        for standing in SMALL:
            self.assertIs(sure(standing, ()), False)
            self.assertIsNone(reason(standing, ()))

    def test_kinds_that_are_not_wished(self):
        self.assertIs(sure(MINE, (("flat", 3), ("house", 20))), False)
        self.assertEqual(reason(MINE, (("a", 20), ("flat", 4), ("house", 20))), FLAT)
        self.assertIs(sure(ByNumber(GARDEN, 0), (("flat", 20),)), False)

    def test_bounds(self):
        for standing in (ByNumber(FLAT, 12), ByKinds(FLAT, 12, (("flat", 12),)), ByWishes(FLAT, ((FLAT, 12),))):
            self.assertIs(sure(standing, (("flat", 12),)), False)
            self.assertIs(sure(standing, (("flat", 13),)), True)
            self.assertEqual((fewest(standing, FLAT), enough(standing, FLAT)), (13, 13))
            self.assertEqual(least_places(standing), ((("flat", 13),),))


def lead(waiting, rng, bring, prompt):
    """Leads a list until each place is given or has been offered to all: the places of bring come at times.

    Everybody else says and does anything; `prompt` says yes to all, and stays.
    """
    bring, quiet = list(bring), 0
    while bring or quiet < 12:
        events = [("yes", name, number) for name, number in waiting.asked_next() if name == prompt]
        offered = list(waiting.asked_next()) + [(name, place[0]) for place in waiting.places for name, _ in place[3]]
        events += [(rng.choice(("yes", "no")), *pair) for pair in offered if pair[0] != prompt and rng.random() < 0.4]
        if bring and rng.random() < 0.6:
            events.append(("place", bring.pop()))
        names = [name for name, _ in waiting.entries]
        leaving = [name for name in names if name != prompt and rng.random() < 0.04]
        events += [("leave", name) for name in leaving]
        if len(names) < 25 and rng.random() < 0.1:
            events.append(("join", f"x{waiting.day}", rng.choice(all_lots(KINDS))))
        rng.shuffle(events)
        # Who leaves answers before or not at all.
        waiting = waiting.after(tuple(sorted(events, key=lambda event: event[0] == "leave")))
        quiet = quiet + 1 if not waiting.asked_next() and not any(place[3] for place in waiting.places) else 0
    return waiting


class Histories(Base):
    def test_who_is_sure_has_a_place_in_whatever_history(self):
        rng = random.Random(13)
        seen = 0
        for _ in range(400):
            people = tuple([(f"p{at}", rng.choice(all_lots(KINDS))) for at in range(rng.randrange(4))])
            behind = tuple([(f"q{at}", rng.choice(all_lots(KINDS))) for at in range(rng.randrange(3))])
            wishes = rng.choice(all_lots(KINDS))
            word = ("keep", "back", "out")
            house = House(rng.randint(1, 3), rng.randint(1, 4), rng.choice(word), rng.choice(word))
            waiting = Waiting(house, people + (("me", wishes),) + behind)
            places = rng.choice([places for places in all_places(KINDS, 3)])
            if sure(waiting.standing("me"), places):
                bring = [kind for kind, number in places for _ in range(number)]
                rng.shuffle(bring)
                # The first place comes while those ahead are as the standing tells.
                end = lead(waiting.after((("place", bring.pop()),)), rng, bring, "me")
                self.assertIn("me", [name for _, _, name in end.given])
                seen += 1
        self.assertGreater(seen, 100)

    def test_who_is_not_sure_waits_in_some_history(self):
        rng = random.Random(14)
        seen = 0
        for _ in range(400):
            lots = [rng.choice(all_lots(KINDS)) for _ in range(rng.randrange(5))]
            people = tuple([(f"p{at}", lot) for at, lot in enumerate(lots)])
            waiting = Waiting(House(1, 1), people + (("me", rng.choice(all_lots(KINDS))),))
            standing = waiting.standing("me")
            places = rng.choice([places for places in all_places(standing.wishes, 3)])
            if sure(standing, places):
                continue
            bring = [kind for kind, number in places for _ in range(number)]
            takers = next(chosen for chosen in itertools.permutations(range(len(lots)), len(bring))
                          if all(kind in lots[at] for kind, at in zip(bring, chosen)))
            waiting = waiting.after(tuple([("place", kind) for kind in bring]))
            for _ in range(8):
                events = [("yes" if name == f"p{takers[number]}" else "no", name, number)
                          for name, number in waiting.asked_next()]
                waiting = waiting.after(tuple(events))
            self.assertEqual(waiting.places, ())
            self.assertNotIn("me", [name for _, _, name in waiting.given])
            seen += 1
        self.assertGreater(seen, 100)


class Least(Base):
    def least(self, standing, most):
        """All least places with at most so many of each kind, in their order."""
        numbers = [places for places in all_places(standing.wishes, most) if sure(standing, places)]
        found = []
        for places in numbers:
            held = dict(places)
            less = [{**held, kind: held[kind] - 1} for kind in held]
            if not any(sure(standing, tuple([pair for pair in one.items() if pair[1]])) for one in less):
                found.append(places)
        return tuple(sorted(found, key=lambda places: (len(places), places)))

    def test_exactly_those(self):
        for standing in SMALL + (ByNumber(BOTH, 12), ByNumber(FOUR, 2), ByWishes(BOTH, ((FLAT, 3), (GARDEN, 4), (BOTH, 5))),
                                 ByWishes(FOUR, ((("c",), 1), (("a", "b"), 2), (("b", "d"), 1)))):
            most = {1: 20, 2: 14, 3: 5, 4: 5}[len(standing.wishes)]
            self.assertEqual(least_places(standing), self.least(standing, most), str(standing))

    def test_nobody_ahead(self):
        for standing in (ByWishes(FOUR, ()), ByKinds(FOUR, 0, ()), ByNumber(FOUR, 0)):
            self.assertEqual(least_places(standing), ((("a", 1),), (("b", 1),), (("c", 1),), (("d", 1),)))

    def test_order_among_lots_of_the_same_length(self):
        told = least_places(ByNumber(("a", "b", "c"), 2))
        self.assertEqual(told, (
            (("a", 3),), (("b", 3),), (("c", 3),),
            (("a", 1), ("b", 2)), (("a", 1), ("c", 2)), (("a", 2), ("b", 1)), (("a", 2), ("c", 1)),
            (("b", 1), ("c", 2)), (("b", 2), ("c", 1)), (("a", 1), ("b", 1), ("c", 1)),
        ))

    def test_the_most(self):
        told = least_places(ByNumber(FOUR, 12))
        self.assertEqual(len(told), 4 + 6 * 12 + 4 * 66 + 220)
        self.assertEqual(len(set(told)), len(told))
        self.assertEqual(list(told), sorted(told, key=lambda places: (len(places), places)))
        self.assertTrue(all(sum(number for _, number in places) == 13 for places in told))


class Numbers(Base):
    def test_by_their_meaning(self):
        for standing in SMALL:
            for lot in all_lots(KINDS):
                places = list(all_places(lot, 5))
                making = [total(one, lot) for one in places if sure(standing, one)]
                self.assertEqual(fewest(standing, lot), min(making, default=None))
                if not set(lot) <= set(standing.wishes):
                    self.assertIsNone(enough(standing, lot))
                else:
                    waiting = [total(one, lot) for one in places if not sure(standing, one)]
                    self.assertEqual(enough(standing, lot), max(waiting) + 1)

    def test_kinds_that_are_not_wished(self):
        for standing in (MINE, MINE.weaker(), MINE.weaker().weaker()):
            self.assertEqual((fewest(standing, ("house",)), enough(standing, ("house",))), (None, None))
            self.assertEqual(enough(standing, ("a", "flat", "garden")), None)
        self.assertEqual([fewest(MINE, lot) for lot in (("flat", "house"), ("garden", "house"), ("a", "b", "flat", "garden"))],
                         [4, 2, 2])

    def test_nobody_ahead(self):
        for standing in (ByWishes(BOTH, ()), ByKinds(BOTH, 0, ()), ByNumber(BOTH, 0)):
            self.assertEqual([fewest(standing, BOTH), enough(standing, BOTH), enough(standing, GARDEN)], [1, 1, 1])

    def test_the_greatest(self):
        self.assertEqual([fewest(ByNumber(FOUR, 12), FOUR), enough(ByNumber(FOUR, 12), FOUR)], [13, 13])


class Days(Base):
    def least_day(self, standing, promises, most):
        for day in range(1, most + 1):
            come = [(kind, day // days) for kind, days in promises]
            if any(total(come, lot) > standing.bar(lot) for lot in all_lots(standing.wishes)):
                return day
        return None

    def test_the_least_day(self):
        rng = random.Random(15)
        for standing in SMALL + (ByNumber(FOUR, 12), ByWishes(FOUR, ((("c",), 2), (("a", "b"), 7), (("b", "d"), 3)))):
            for _ in range(25):
                kinds = sorted(rng.sample(KINDS + FOUR, rng.randint(0, 6)))
                promises = tuple([(kind, rng.choice((1, 2, 3, 7, 50, rng.randint(1, 99)))) for kind in kinds])
                self.assertEqual(sure_day(standing, promises), self.least_day(standing, promises, 13 * 99))

    def test_no_day(self):
        for standing in SMALL:
            self.assertIsNone(sure_day(standing, ()))
            self.assertIsNone(sure_day(standing, (("house", 1), ("street", 99))))

    def test_more_than_twenty_of_a_kind(self):
        # By day 24 there are 24 tents, which do not help, and two flats and two gardens.
        standing = ByWishes(("flat", "garden", "tent"), ((("tent",), 9), (("flat", "garden", "tent"), 3)))
        self.assertEqual(sure_day(standing, (("flat", 12), ("garden", 12), ("tent", 24))), 24)
        self.assertEqual(sure_day(ByNumber(FLAT, 12), (("a", 1), ("flat", 99))), 13 * 99)
        standing = ByKinds(BOTH, 12, (("flat", 12), ("garden", 12)))
        self.assertEqual(sure_day(standing, (("flat", 99), ("garden", 1))), 13)

    def test_days_one_and_ninety_nine(self):
        self.assertEqual(sure_day(ByNumber(FLAT, 0), (("flat", 1),)), 1)
        self.assertEqual(sure_day(ByNumber(FLAT, 0), (("flat", 99),)), 99)
        self.assertEqual(sure_day(ByNumber(BOTH, 1), (("flat", 99), ("garden", 98))), 99)
        self.refused(InvalidPromises, 0, sure_day, ByNumber(FLAT, 0), (("flat", 100),))


if __name__ == "__main__":
    unittest.main()
