"""Points [2] to [5] and [16]: certificates, and that the checker accepts them."""

import inspect
import random

from offerlists import certificates
from offerlists.certificates import certify_longer, certify_never_worse, certify_sure, certify_waits, certify_worse
from offerlists.checker import accepts
from offerlists.comparing import never_worse
from offerlists.errors import InvalidNumber, InvalidPlaces, NotAHouse, NotAStanding, OtherWishes, Unwished
from offerlists.houses import House
from offerlists.standings import ByKinds, ByNumber, ByWishes
from offerlists.sure import sure
from offerlists.waydays import longest_way
from values import (
    BOTH, FLAT, FOUR, GARDEN, MINE, NO_HOUSES, NO_NAMES, NO_PLACES, NO_STANDINGS, OTHERS, PLAIN, SIX, Base, all_houses,
    all_lots, all_places, of_people, small_standings, some_standing, some_unsure_places,
)


class Certified(Base):
    def shows(self, pair, claim):
        """The pair is this claim with a certificate that the checker accepts."""
        self.assertEqual([pair.__class__, len(pair)], [tuple, 2])
        self.assertEqual(pair[0], claim)
        self.assertIs(accepts(*pair), True)

    def check_places(self, standing, house, places):
        first, second = certify_sure(standing, places), certify_waits(standing, house, places)
        if sure(standing, places):
            self.assertIsNone(second)
            self.shows(first, ("sure", str(standing), places))
        else:
            self.assertIsNone(first)
            self.shows(second, ("waits", str(standing), str(house), places))

    def check_two(self, one, other):
        first, second = certify_never_worse(one, other), certify_worse(one, other)
        if never_worse(one, other):
            self.assertIsNone(second)
            self.shows(first, ("never worse", str(one), str(other)))
        else:
            self.assertIsNone(first)
            self.shows(second, ("worse", str(one), str(other)))

    def check_days(self, standing, house, kind):
        longest = longest_way(standing, house, kind)
        for days in {0, 1, longest - 1, longest, longest + 1, 99}:
            if 0 <= days <= 99:
                pair = certify_longer(standing, house, kind, days)
                if days >= longest:
                    self.assertIsNone(pair)
                else:
                    self.shows(pair, ("longer", str(standing), str(house), kind, days))
                    self.assertFalse(accepts((*pair[0][:4], longest), pair[1]))

    def test_signatures(self):
        for call, names in (
            (certify_sure, ["standing", "places"]), (certify_waits, ["standing", "house", "places"]),
            (certify_never_worse, ["one", "other"]), (certify_worse, ["one", "other"]),
            (certify_longer, ["standing", "house", "kind", "days"]),
        ):
            self.assertEqual(list(inspect.signature(call).parameters), names)
            self.assertEqual(call.__module__, "offerlists.certificates")
            self.assertIs(getattr(certificates, call.__name__), call)

    def test_by_name(self):
        less, three = (("flat", 3),), ByNumber(BOTH, 3)
        self.shows(certify_sure(places=(("flat", 4),), standing=MINE), ("sure", str(MINE), (("flat", 4),)))
        self.shows(certify_waits(places=less, house=PLAIN, standing=MINE), ("waits", str(MINE), str(PLAIN), less))
        self.shows(certify_never_worse(other=three, one=MINE), ("never worse", str(MINE), str(three)))
        self.shows(certify_worse(other=MINE, one=three), ("worse", str(three), str(MINE)))
        self.shows(certify_longer(days=2, kind="flat", house=PLAIN, standing=MINE), ("longer", str(MINE), str(PLAIN), "flat", 2))

    def test_small_ones(self):
        houses = list(all_houses())
        rows = list(small_standings())
        for at, standing in enumerate(rows):
            for places in all_places(standing.wishes, 4 if len(standing.wishes) < 3 else 2):
                self.check_places(standing, houses[at % len(houses)], places)
            for other in rows[at % 5::5]:
                if other.wishes == standing.wishes:
                    self.check_two(standing, other)
            for kind in standing.wishes:
                self.check_days(standing, houses[-1 - at % len(houses)], kind)

    def test_any_up_to_twelve_ahead(self):
        rng = random.Random(24)
        houses = list(all_houses())
        for _ in range(250):
            wishes = rng.choice(all_lots("abcde"))
            one, other = some_standing(rng, "abcdef", wishes), some_standing(rng, "abcdef", wishes)
            house = rng.choice(houses)
            places = some_unsure_places(rng, one)
            self.check_places(one, house, places)
            self.check_places(other, house, places)
            self.check_places(one, house, tuple(sorted(places + (("y", 20), ("z", 3)))))
            self.check_two(one, other)
            self.check_two(one, one.weaker())
            self.check_two(one.weaker(), one)
            self.check_days(one, house, rng.choice(wishes))

    def test_at_the_bars_and_one_more(self):
        for standing in (MINE, *of_people(FOUR, [FOUR] * 12), *of_people(BOTH, []), ByKinds(BOTH, 3, (("flat", 2), ("x", 3)))):
            for kind in standing.wishes:
                bar = standing.bar((kind,))
                self.check_places(standing, House(3, 9, "out", "out"), ((kind, bar),) if bar else ())
                self.check_places(standing, House(3, 9, "out", "out"), ((kind, bar + 1),))

    def test_no_places_and_six_pairs(self):
        for standing in (*of_people(FLAT, []), *of_people(("k0", "k5"), [("k0", "k5")] * 12), ByNumber(("k1",), 12)):
            self.check_places(standing, PLAIN, ())
            self.check_places(standing, PLAIN, SIX)

    def test_days(self):
        standing, house = ByNumber(FLAT, 12), House(1, 9)
        self.shows(certify_longer(standing, house, "flat", 99), ("longer", str(standing), str(house), "flat", 99))
        self.shows(certify_longer(standing, house, "flat", 0), ("longer", str(standing), str(house), "flat", 0))
        self.assertIsNone(certify_longer(ByNumber(FLAT, 11), house, "flat", 99))
        self.assertIsNone(certify_longer(ByNumber(FLAT, 0), house, "flat", 0))

    def test_equal_calls_return_equal_results(self):
        for _ in range(2):
            self.assertEqual(certify_worse(MINE.weaker().weaker(), MINE), certify_worse(ByNumber(BOTH, 3), MINE))
            self.assertEqual(certify_waits(MINE, PLAIN, SIX), certify_waits(MINE, House(1, 1), SIX))


class Wrong(Base):
    def test_no_standings(self):
        for wrong in NO_STANDINGS:
            told = {"given": wrong}
            self.refused(NotAStanding, told, certify_sure, wrong, None)
            self.refused(NotAStanding, told, certify_waits, wrong, None, None)
            self.refused(NotAStanding, told, certify_longer, wrong, None, None, None)
            for call in (certify_never_worse, certify_worse):
                self.refused(NotAStanding, told, call, wrong, None)
                self.refused(NotAStanding, told, call, MINE, wrong)
                self.refused(NotAStanding, told, call, other=wrong, one=ByNumber(("other",), 1))

    def test_no_houses(self):
        for wrong in NO_HOUSES:
            self.refused(NotAHouse, {"given": wrong}, certify_waits, MINE, wrong, None)
            self.refused(NotAHouse, {"given": wrong}, certify_waits, MINE, wrong, (("flat", 4),))
            self.refused(NotAHouse, {"given": wrong}, certify_longer, MINE, wrong, "tent", None)

    def test_no_places(self):
        for wrong, index in NO_PLACES:
            self.refused(InvalidPlaces, {"index": index}, certify_sure, MINE, wrong)
            self.refused(InvalidPlaces, {"index": index}, certify_waits, MINE, PLAIN, wrong)

    def test_unwished(self):
        for wrong in NO_NAMES + ("tent",):
            self.refused(Unwished, {"given": wrong}, certify_longer, MINE, PLAIN, wrong, 0)
            self.refused(Unwished, {"given": wrong}, certify_longer, MINE, PLAIN, wrong, None)

    def test_no_days(self):
        wrongs = [value for value in OTHERS if not (value.__class__ is int and value in (0, 1))]
        for wrong in wrongs + [100, -1, 108, "3", (3,), PLAIN]:
            self.refused(InvalidNumber, {"given": wrong}, certify_longer, MINE, PLAIN, "flat", wrong)
            # Also where the way is not longer than any number that can be asked.
            self.refused(InvalidNumber, {"given": wrong}, certify_longer, ByNumber(FLAT, 0), PLAIN, "flat", wrong)
            self.refused(InvalidNumber, {"given": wrong}, certify_longer, ByNumber(FLAT, 12), House(1, 9), "flat", wrong)

    def test_other_wishes(self):
        for call in (certify_never_worse, certify_worse):
            self.refused(OtherWishes, {}, call, ByNumber(FLAT, 1), ByNumber(GARDEN, 1))
            self.refused(OtherWishes, {}, call, other=ByWishes(BOTH, ()), one=ByNumber(FLAT, 0))
