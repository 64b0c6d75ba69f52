"""Points [2] to [6], [12] and [14]: standings compared."""

import inspect
import random

from offerlists import comparing
from offerlists.comparing import alike, never_worse, parting
from offerlists.errors import NotAStanding, OtherWishes
from offerlists.standings import ByKinds, ByNumber, ByWishes
from offerlists.sure import sure
from values import (
    BOTH, FLAT, FOUR, GARDEN, KINDS, MINE, NO_STANDINGS, PLAIN, Base, all_lots, all_places, small_standings, some_standing,
)

CALLS = (never_worse, alike, parting)


class Compared(Base):
    def check_parting(self, one, other):
        """Never worse exactly if no bar is greater; else there are places that tell the two."""
        better = all(one.bar(lot) <= other.bar(lot) for lot in all_lots(one.wishes))
        self.assertIs(never_worse(one, other), better)
        places = parting(one, other)
        if better:
            self.assertIsNone(places)
            return
        self.assertIs(places.__class__, tuple)
        # These are places by the words of point [13], which `sure` looks after.
        self.assertIs(sure(other, places), True)
        self.assertIs(sure(one, places), False)
        self.assertEqual([kind for kind, _ in places if kind not in one.wishes], [])

    def test_signatures(self):
        for call in CALLS:
            self.assertEqual(list(inspect.signature(call).parameters), ["one", "other"])
            self.assertEqual(call.__module__, "offerlists.comparing")
            self.assertIs(getattr(comparing, call.__name__), call)

    def test_by_position_and_by_name(self):
        weaker = MINE.weaker()
        self.assertIs(never_worse(other=weaker, one=MINE), True)
        self.assertIs(never_worse(weaker, other=weaker.weaker()), True)
        self.assertIs(never_worse(one=weaker.weaker(), other=weaker), False)
        self.assertIs(alike(other=weaker, one=MINE), True)
        self.assertIsNone(parting(other=weaker.weaker(), one=MINE))
        self.assertEqual(parting(other=MINE, one=weaker.weaker()), parting(weaker.weaker(), MINE))

    def test_small_ones_by_all_places(self):
        rows = list(small_standings())
        for wishes, most in ((FLAT, 4), (BOTH, 4), (KINDS, 4)):
            mine = [standing for standing in rows if standing.wishes == wishes][::1 if len(wishes) < 3 else 6]
            surely = [frozenset(places for places in all_places(wishes, most) if sure(one, places)) for one in mine]
            for one, surely_one in zip(mine, surely):
                for other, surely_other in zip(mine, surely):
                    self.assertIs(never_worse(one, other), surely_one >= surely_other)
                    self.assertIs(alike(one, other), surely_one == surely_other)
                    self.check_parting(one, other)

    def test_any_up_to_twelve_ahead(self):
        rng = random.Random(14)
        for _ in range(1500):
            wishes = rng.choice(all_lots("abcde"))
            one, other = some_standing(rng, "abcdef", wishes), some_standing(rng, "abcdef", wishes)
            self.check_parting(one, other)
            self.check_parting(other, one)
            self.assertIs(alike(one, other), never_worse(one, other) and never_worse(other, one))
            self.assertIs(alike(one, other), alike(other, one))

    def test_with_itself(self):
        for one in small_standings():
            self.assertEqual((never_worse(one, one), alike(one, one), parting(one, one)), (True, True, None))

    def test_with_its_weaker_one(self):
        rng = random.Random(15)
        parted = 0
        for _ in range(200):
            one = some_standing(rng, FOUR)
            weaker = one.weaker()
            self.assertIs(never_worse(one, weaker), True)
            self.check_parting(weaker, one)
            parted += not alike(one, weaker)
        self.assertGreater(parted, 50)

    def test_no_greater_bar_alone_does_not_make_better(self):
        # Each kind alone tells the same, and both together do not.
        apart = ByWishes(BOTH, ((FLAT, 1), (GARDEN, 1)))
        together = ByWishes(BOTH, ((BOTH, 1),))
        self.assertIs(never_worse(together, apart), True)
        self.assertIs(never_worse(apart, together), False)
        self.assertEqual(parting(apart, together), (("flat", 1), ("garden", 1)))
        self.assertIs(alike(apart, together), False)

    def test_nobody_ahead_and_twelve(self):
        for none in (ByWishes(BOTH, ()), ByKinds(BOTH, 0, ()), ByNumber(BOTH, 0)):
            for twelve in (ByWishes(BOTH, ((BOTH, 12),)), ByKinds(BOTH, 12, (("flat", 12), ("garden", 12))), ByNumber(BOTH, 12)):
                self.assertEqual((never_worse(none, twelve), never_worse(twelve, none)), (True, False))
                self.check_parting(twelve, none)
                self.assertIs(alike(twelve, ByNumber(BOTH, 12)), True)
                self.assertIs(alike(none, ByNumber(BOTH, 0)), True)

    def test_people_who_do_not_matter(self):
        # Those ahead who wish none of the kinds tell two standings by their texts alone.
        one, other = ByWishes(FLAT, ((FLAT, 2),)), ByWishes(FLAT, ((FLAT, 2), (("tent",), 9)))
        self.assertNotEqual(one, other)
        self.assertIs(alike(one, other), True)
        self.assertIs(alike(ByNumber(FLAT, 2), one), True)
        self.assertEqual(parting(ByNumber(FLAT, 11), other), (("flat", 11),))

    def test_equal_calls_return_equal_results(self):
        for one in list(small_standings())[::4]:
            twin = ByNumber(one.wishes, 3)
            self.assertEqual(parting(twin, one), parting(ByNumber(one.wishes, 3), one))


class Wrong(Base):
    def test_no_standings(self):
        for call in CALLS:
            for wrong in NO_STANDINGS:
                self.refused(NotAStanding, {"given": wrong}, call, wrong, MINE)
                self.refused(NotAStanding, {"given": wrong}, call, MINE, wrong)
                self.refused(NotAStanding, {"given": wrong}, call, other=PLAIN, one=wrong)
                self.refused(NotAStanding, {"given": wrong}, call, other=wrong, one=ByNumber(("other",), 1))

    def test_other_wishes(self):
        for call in CALLS:
            for one, other in ((FLAT, GARDEN), (BOTH, FLAT), (FLAT, BOTH), (KINDS, BOTH)):
                for many in (0, 12):
                    self.refused(OtherWishes, {}, call, ByNumber(one, many), ByNumber(other, many))
                    self.refused(OtherWishes, {}, call, other=ByKinds(other, 1, (("x", 1),)), one=ByWishes(one, ()))
