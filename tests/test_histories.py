"""Points [2] to [6], [13] and [16]: histories in which an entry waits."""

import inspect
import random

from offerlists.errors import InvalidPlaces, NotAHouse, NotAStanding
from offerlists.histories import waits
from offerlists.houses import House
from offerlists.standings import ByKinds, ByNumber, ByWishes
from offerlists.sure import sure
from offerlists.waiting import Waiting
from test_sure import sure_by_its_meaning
from values import (
    BOTH, FLAT, FOUR, GARDEN, KINDS, MINE, NO_HOUSES, NO_PLACES, NO_STANDINGS, PLAIN, SIX, Base, all_houses, all_places,
    fits, small_standings, some_standing, some_unsure_places,
)


class Shown(Base):
    def check(self, standing, house, places):
        """The answer is None if the standing is sure, else it shows that it is not, by the words of point [16]."""
        shown = waits(standing, house, places)
        if sure(standing, places):
            self.assertIsNone(shown)
            return
        self.assertEqual([part.__class__ for part in (shown, *shown)], [tuple] * 3)
        entries, days = shown
        own, wishes = entries[-1]
        self.assertEqual(wishes, standing.wishes)
        self.assertTrue(fits(standing, [lot for _, lot in entries[:-1]]))
        waiting = Waiting(house, entries)
        for events in days:
            for name, number in waiting.asked_next():
                if name == own:
                    self.assertIn(("yes", name, number), events)
            self.assertNotIn(("leave", own), events)
            waiting = waiting.after(events)
            self.assertIn((own, wishes), waiting.entries)
        came = sorted([event[1] for events in days for event in events if event[0] == "place"])
        self.assertEqual(came, [kind for kind, number in places for _ in range(number)])
        for _, kind, asked, _ in waiting.places:
            self.assertEqual([name for name, lot in waiting.entries if kind in lot and name not in asked], [])

    def test_signature(self):
        self.assertEqual(list(inspect.signature(waits).parameters), ["standing", "house", "places"])
        self.assertEqual(waits.__module__, "offerlists.histories")

    def test_by_position_and_by_name(self):
        shown = waits(MINE, PLAIN, (("flat", 3),))
        self.assertIsNotNone(shown)
        self.assertEqual(waits(places=(("flat", 3),), house=PLAIN, standing=MINE), shown)
        self.assertIsNone(waits(MINE, places=(("flat", 4),), house=PLAIN))

    def test_small_ones_with_all_places(self):
        for standing in small_standings():
            house = House(1 + standing.ahead % 3, 1, "back", "out")
            for places in all_places(standing.wishes, 4 if len(standing.wishes) < 3 else 3):
                with self.subTest(standing=str(standing), places=places):
                    self.check(standing, house, places)

    def test_none_exactly_if_everybody_who_fits_leaves_one(self):
        for standing in small_standings():
            if standing.ahead == 2:
                for places in all_places(KINDS, 2):
                    self.assertIs(waits(standing, PLAIN, places) is None, sure_by_its_meaning(standing, places, KINDS))

    def test_all_houses(self):
        places = (("a", 3), ("flat", 2), ("garden", 3), ("tent", 4))
        for house in all_houses():
            for standing in (
                ByWishes(BOTH, ((FLAT, 1), (GARDEN, 1), (("tent",), 1), (BOTH, 2), (KINDS, 2))),
                ByKinds(BOTH, 7, (("a", 2), ("flat", 4), ("garden", 4), ("tent", 5))), ByNumber(BOTH, 5), ByNumber(BOTH, 12),
            ):
                with self.subTest(house=str(house), standing=str(standing)):
                    self.assertFalse(sure(standing, places))
                    self.check(standing, house, places)

    def test_any_up_to_twelve_ahead(self):
        rng = random.Random(16)
        houses = list(all_houses())
        for _ in range(700):
            standing = some_standing(rng, "abcdef")
            places = some_unsure_places(rng, standing)
            more = tuple([(kind, rng.choice((1, 2, 20))) for kind in "abcdefg" if kind not in standing.wishes])
            both = tuple(sorted(places + more))[:6]
            with self.subTest(standing=str(standing), places=both):
                self.assertFalse(sure(standing, both))
                self.check(standing, rng.choice(houses), both)

    def test_at_the_bars_and_one_more(self):
        rng = random.Random(17)
        for _ in range(150):
            standing = some_standing(rng, FOUR, FOUR)
            for kind in FOUR:
                bar = standing.bar((kind,))
                self.check(standing, House(3, 9), ((kind, bar),) if bar else ())
                self.assertIsNone(waits(standing, House(3, 9), ((kind, bar + 1),)))
            places = some_unsure_places(rng, standing)
            least = dict(places)
            while not sure(standing, tuple(sorted(least.items()))):
                self.check(standing, House(2, 2, "out"), tuple(sorted(least.items())))
                kind = rng.choice(FOUR)
                least[kind] = least.get(kind, 0) + 1
            self.assertIsNone(waits(standing, House(2, 2, "out"), tuple(sorted(least.items()))))

    def test_people_by_kinds_who_wish_as_many_as_can_be(self):
        # Each of twelve wishes four kinds; the places leave nobody out, and the kinds of the others are in the way.
        for rows in (
            (("a", 12), ("b", 12), ("c", 12), ("d", 12)), (("a", 8), ("b", 8), ("c", 8), ("d", 8), ("e", 8), ("f", 8)),
            (("a", 2), ("b", 12), ("c", 11), ("d", 1), ("e", 12), ("f", 10)), (("a", 1), ("b", 2), ("c", 3), ("d", 6)),
            (("a", 3), ("b", 3), ("c", 3), ("d", 3), ("e", 12), ("f", 12), ("g", 12)),
        ):
            standing = ByKinds(FOUR, 12, rows)
            for seed in range(60):
                self.check(standing, PLAIN, some_unsure_places(random.Random(seed), standing))

    def test_nobody_ahead(self):
        for standing in (ByWishes(FLAT, ()), ByKinds(FLAT, 0, ()), ByNumber(FLAT, 0)):
            for places in ((), (("garden", 1),), (("a", 20), ("garden", 20), ("tent", 1))):
                for house in all_houses():
                    self.check(standing, house, places)
            self.assertIsNone(waits(standing, PLAIN, (("flat", 1),)))
            self.assertIsNone(waits(standing, PLAIN, (("a", 20), ("flat", 1), ("garden", 20))))

    def test_no_places(self):
        for standing in list(small_standings())[::5] + [ByNumber(FOUR, 12), ByKinds(FOUR, 12, (("x", 12),))]:
            self.check(standing, House(3, 9, "out", "back"), ())

    def test_six_pairs_and_the_most(self):
        for standing in (ByNumber(FLAT, 12), ByWishes(FLAT, ((("k0", "k5"), 12),)), ByKinds(("k9",), 1, (("k0", 1),))):
            self.check(standing, House(2, 9, "back", "back"), SIX)
        self.check(ByNumber(("k0",), 12), PLAIN, (("k0", 12), *SIX[1:]))
        self.assertIsNone(waits(ByNumber(("k0",), 12), PLAIN, (("k0", 13), *SIX[1:])))

    def test_kinds_that_nobody_wishes(self):
        for house in all_houses():
            self.check(ByWishes(FLAT, ((FLAT, 1), (GARDEN, 2))), house, (("a", 20), ("b", 2), ("flat", 1), ("garden", 1), ("z", 1)))

    def test_equal_calls_return_equal_results(self):
        for standing in list(small_standings())[::7]:
            for places in all_places(standing.wishes, 1):
                again = ByNumber(standing.wishes, standing.ahead) if isinstance(standing, ByNumber) else standing
                self.assertEqual(waits(standing, PLAIN, places), waits(again, House(1, 1), tuple(list(places))))


class Wrong(Base):
    def test_no_standings(self):
        for wrong in NO_STANDINGS:
            self.refused(NotAStanding, {"given": wrong}, waits, wrong, PLAIN, ())
            self.refused(NotAStanding, {"given": wrong}, waits, wrong, None, None)
            self.refused(NotAStanding, {"given": wrong}, waits, places=None, house=None, standing=wrong)

    def test_no_houses(self):
        for wrong in NO_HOUSES:
            self.refused(NotAHouse, {"given": wrong}, waits, MINE, wrong, ())
            self.refused(NotAHouse, {"given": wrong}, waits, MINE, wrong, None)
            # Also where the standing is sure, and no history is asked for.
            self.refused(NotAHouse, {"given": wrong}, waits, MINE, wrong, (("flat", 4),))

    def test_no_places(self):
        for wrong, index in NO_PLACES:
            self.refused(InvalidPlaces, {"index": index}, waits, MINE, PLAIN, wrong)
            self.refused(InvalidPlaces, {"index": index}, waits, places=wrong, house=PLAIN, standing=MINE)

    def test_what_is_passed_is_not_changed(self):
        places = [("flat", 1)]
        self.refused(InvalidPlaces, {"index": None}, waits, MINE, PLAIN, places)
        self.assertEqual(places, [("flat", 1)])
        waits(MINE, PLAIN, (("flat", 1),))
        self.assertEqual(str(MINE), "wishes flat garden\nahead 2: flat\nahead 1: flat garden")
