"""Points [2] to [6], [9], [11] and [16]: how many days a place can be on its way."""

import inspect
import itertools
import random

from offerlists import waydays
from offerlists.errors import InvalidNumber, NotAHouse, NotAStanding, Unwished
from offerlists.houses import House
from offerlists.standings import ByKinds, ByNumber, ByWishes
from offerlists.waiting import Waiting
from offerlists.waydays import longest_way, passed_by, way
from values import (
    BOTH, FLAT, FOUR, GARDEN, KINDS, MINE, NO_HOUSES, NO_NAMES, NO_STANDINGS, OTHERS, PLAIN, WORDS, Base, LikeAll,
    all_houses, all_lots, fits, of_people, small_standings, some_standing,
)

PLACE = ("place", "flat")


def answers(waiting):
    """All that people ahead can say or do on the next day, as long as the entry `me` is not asked."""
    asked = [(name, number) for name, number in waiting.asked_next()]
    offers = asked + [(name, place[0]) for place in waiting.places for name, _ in place[3]]
    choices = [[()] + [((word, *offer),) for word in ("yes", "no")] for offer in offers]
    leaving = [[(), (("leave", name),)] for name, _ in waiting.entries if name != "me"]
    for chosen in itertools.product(*choices, *leaving):
        yield tuple([event for events in chosen for event in events])


def longest_of_all_histories(waiting, known):
    """The most days until `me` is asked for the one place; None if it never is. The place has come before."""
    key = (waiting.entries, waiting.places and tuple(
        (asked, tuple((name, last - waiting.day) for name, last in offers)) for _, _, asked, offers in waiting.places
    ))
    if key not in known:
        if "me" in [name for name, _ in waiting.asked_next()]:
            known[key] = 0
        elif not waiting.places:
            known[key] = None
        else:
            known[key] = None
            found = [longest_of_all_histories(waiting.after(events), known) for events in answers(waiting)]
            known[key] = max([days + 1 for days in found if days is not None], default=None)
    return known[key]


class Longest(Base):
    def test_signatures(self):
        for call, names in ((longest_way, ["standing", "house", "kind"]), (way, ["standing", "house", "kind"]),
                            (passed_by, ["house", "late"])):
            self.assertEqual(list(inspect.signature(call).parameters), names)
            self.assertEqual(call.__module__, "offerlists.waydays")
            self.assertIs(getattr(waydays, call.__name__), call)

    def test_by_position_and_by_name(self):
        house = House(2, 5)
        self.assertEqual(longest_way(kind="flat", house=house, standing=MINE), 5)
        self.assertEqual(longest_way(MINE, house, kind="garden"), 0)
        self.assertEqual(way(kind="flat", standing=MINE, house=house), way(MINE, house, "flat"))

    def test_the_number(self):
        for wave, days, many in itertools.product((1, 2, 3), (1, 2, 5, 9), range(13)):
            for standing in (ByNumber(BOTH, many), ByKinds(BOTH, many, (("garden", many),) if many else ()),
                             ByWishes(BOTH, ((GARDEN, many),) if many else ())):
                found = longest_way(standing, House(wave, days, "out", "back"), "garden")
                self.assertEqual(found, many // wave * days)
                self.assertIs(found.__class__, int)
        self.assertEqual(longest_way(ByNumber(FLAT, 12), House(1, 9), "flat"), 108)

    def test_only_those_who_may_wish_the_kind_count(self):
        house = House(1, 4)
        standing = ByWishes(BOTH, ((FLAT, 2), (("tent",), 5), (BOTH, 1)))
        self.assertEqual([longest_way(standing, house, kind) for kind in BOTH], [12, 4])
        self.assertEqual([longest_way(standing.weaker(), house, kind) for kind in BOTH], [12, 4])
        self.assertEqual([longest_way(standing.weaker().weaker(), house, kind) for kind in BOTH], [32, 32])

    def test_greatest_of_all_histories(self):
        lots = (FLAT, GARDEN, BOTH)
        for wave, days, silent, declined in itertools.product((1, 2), (1, 2), WORDS, WORDS):
            house = House(wave, days, silent, declined)
            for many in range(4 if days == 1 else 3):
                for people in itertools.product(lots, repeat=many):
                    entries = tuple([(f"p{at}", lot) for at, lot in enumerate(people)]) + (("me", FLAT),)
                    standing = Waiting(house, entries).standing("me")
                    come = Waiting(house, entries).after((PLACE,))
                    self.assertEqual(longest_of_all_histories(come, {}), longest_way(standing, house, "flat"))

    def test_never_longer_with_other_places_and_people(self):
        rng = random.Random(18)
        for _ in range(500):
            people = [rng.choice((FLAT, GARDEN, BOTH)) for _ in range(rng.randrange(6))]
            house = House(rng.randint(1, 3), rng.randint(1, 3), rng.choice(WORDS), rng.choice(WORDS))
            waiting = Waiting(house, tuple([(f"p{at}", lot) for at, lot in enumerate(people)]) + (("me", BOTH),))
            longest = longest_way(waiting.standing("me"), house, "flat")
            waiting = waiting.after((PLACE, ("join", "late", FLAT)) + (("place", "garden"),) * rng.randrange(3))
            for days in range(longest + 2):
                asked = waiting.asked_next()
                own = [pair for pair in asked if pair[0] == "me"]
                if ("me", 0) in own or 0 not in [place[0] for place in waiting.places]:
                    break
                offers = list(asked) + [(name, place[0]) for place in waiting.places for name, _ in place[3]]
                said = [("no", *pair) for pair in offers if pair[0] != "me" and rng.random() < 0.2]
                said += [("yes", *pair) for pair in offers if pair[0] != "me" and pair[1] and rng.random() < 0.2]
                dict_of = {event[1:]: event for event in said}
                # A prompt entry that has another place does not wait any more.
                waiting = waiting.after(tuple(dict_of.values()) + tuple([("yes", *pair) for pair in own]))
                if "me" not in [name for name, _ in waiting.entries]:
                    break
            self.assertLessEqual(days, longest)


class Way(Base):
    def check(self, standing, house, kind):
        """The pair shows the longest way, by the words of points [9] and [16]."""
        shown = way(standing, house, kind)
        self.assertEqual([part.__class__ for part in (shown, *shown)], [tuple] * 3)
        entries, days = shown
        own, wishes = entries[-1]
        self.assertEqual(wishes, standing.wishes)
        self.assertTrue(fits(standing, [lot for _, lot in entries[:-1]]))
        self.assertEqual((days[0], days[-1]), ((("place", kind),), ()))
        self.assertEqual([event for events in days[1:] for event in events if event[0] == "place"], [])
        waiting, mornings = Waiting(house, entries), []
        for at, events in enumerate(days):
            self.assertIn((own, wishes), waiting.entries)
            self.assertNotIn(("leave", own), events)
            mornings += [at for name, _ in waiting.asked_next() if name == own]
            waiting = waiting.after(events)
        self.assertEqual(mornings, [len(days) - 1])
        # The first morning of the place is that of the second day, the one with index 1.
        self.assertEqual(len(days) - 2, longest_way(standing, house, kind))

    def test_small_ones_in_all_houses(self):
        houses = list(all_houses())
        for at, standing in enumerate(small_standings()):
            for kind in standing.wishes:
                for house in houses[at % 7::7]:
                    self.check(standing, house, kind)

    def test_any_up_to_twelve_ahead(self):
        rng = random.Random(19)
        houses = list(all_houses())
        for _ in range(250):
            standing = some_standing(rng, "abcdef")
            self.check(standing, rng.choice(houses), rng.choice(standing.wishes))

    def test_nobody_and_twelve_ahead(self):
        for house in all_houses():
            for standing in (*of_people(FLAT, []), *of_people(BOTH, [FLAT] * 12), *of_people(FOUR, [FOUR] * 12)):
                for kind in standing.wishes:
                    self.check(standing, house, kind)

    def test_a_kind_that_nobody_ahead_wishes(self):
        for standing in of_people(BOTH, [FLAT] * 7)[:2]:
            entries, days = way(standing, PLAIN, "garden")
            self.assertEqual(days, ((("place", "garden"),), ()))
            self.check(standing, PLAIN, "garden")

    def test_equal_calls_return_equal_results(self):
        for standing in list(small_standings())[::5]:
            self.assertEqual(way(standing, PLAIN, "flat"), way(standing, House(1, 1), "flat"))


class PassedBy(Base):
    def test_exactly(self):
        for house in all_houses():
            for late in range(21):
                if late == 0 or (house.wave == 1 and late < house.days):
                    self.assertEqual(passed_by(house, late), 0)
                    self.assertIs(passed_by(house, late).__class__, int)
                else:
                    self.assertIsNone(passed_by(house, late))

    def test_edges(self):
        house = House(1, 9)
        self.assertEqual([passed_by(house, late) for late in (0, 8, 9, 20)], [0, 0, None, None])
        self.assertEqual([passed_by(House(2, 9), late) for late in (0, 1)], [0, None])
        self.assertEqual([passed_by(House(1, 1), late) for late in (0, 1)], [0, None])
        self.assertEqual(passed_by(late=3, house=house), 0)

    def led(self, house, late, rng, days):
        """How many behind `me` have a place that it wishes before it, and whether it then has one.

        The entry `me` says yes so many days late; the others join, leave and answer in any way.
        """
        waiting = Waiting(house, (("p0", FLAT), ("p1", BOTH), ("me", FLAT)))
        sayings, ahead = {}, ("p0", "p1")
        for day in range(1, days):
            asked = waiting.asked_next()
            sayings.update({pair: day + late for pair in asked if pair[0] == "me"})
            offers = list(asked) + [(name, place[0]) for place in waiting.places for name, _ in place[3]]
            said = {pair: rng.choice(("yes", "yes", "no")) for pair in offers if pair[0] != "me" and rng.random() < 0.6}
            said.update({pair: "yes" for pair in offers if sayings.get(pair) == day})
            events = tuple([(word, *pair) for pair, word in said.items()])
            events += (PLACE,) * rng.randrange(2) + (("place", "garden"),) * rng.randrange(2)
            if len(waiting.entries) < 12:
                events += (("join", f"q{day}", rng.choice((FLAT, BOTH, GARDEN))),)
            waiting = waiting.after(events)
            if "me" not in [name for name, _ in waiting.entries]:
                break
        passing = [name for _, kind, name in waiting.given if kind == "flat" and name not in ahead + ("me",)]
        return len(passing), "me" in [name for _, _, name in waiting.given]

    def test_nobody_passes_by_who_is_never_passed(self):
        rng = random.Random(20)
        given = 0
        for house in all_houses():
            for late in range(house.days if house.wave == 1 else 1):
                for _ in range(4):
                    passing, has = self.led(house, late, rng, 60)
                    self.assertEqual(passing, 0)
                    given += has
        self.assertGreater(given, 100)

    def test_no_end_of_those_who_pass_by(self):
        # In a wave of two, who says yes at once has the place before the one who says it the next day.
        for many in (1, 5, 20):
            waiting = Waiting(House(2, 3), (("me", FLAT),))
            for at in range(many):
                waiting = waiting.after((PLACE, ("join", f"q{at}", FLAT)))
                self.assertIn(("me", at), waiting.asked_next())
                waiting = waiting.after((("yes", f"q{at}", at),))
            self.assertEqual(len(waiting.given), many)
            waiting = waiting.after((PLACE,)).after(()).after((("yes", "me", many),))
            self.assertEqual(waiting.given[-1], (many, "flat", "me"))
        self.assertIsNone(passed_by(House(2, 3), 1))

    def test_who_is_too_late_is_never_given_one(self):
        rng = random.Random(21)
        for wave, days in itertools.product((1, 2, 3), (1, 2, 3)):
            self.assertIsNone(passed_by(House(wave, days), days))
            self.assertFalse(self.led(House(wave, days), days, rng, 80)[1])


class Wrong(Base):
    def test_no_standings(self):
        for call in (longest_way, way):
            for wrong in NO_STANDINGS:
                self.refused(NotAStanding, {"given": wrong}, call, wrong, PLAIN, "flat")
                self.refused(NotAStanding, {"given": wrong}, call, wrong, None, None)
                self.refused(NotAStanding, {"given": wrong}, call, kind=None, house=None, standing=wrong)

    def test_no_houses(self):
        for wrong in NO_HOUSES:
            for call in (longest_way, way):
                self.refused(NotAHouse, {"given": wrong}, call, MINE, wrong, "flat")
                self.refused(NotAHouse, {"given": wrong}, call, MINE, wrong, None)
            self.refused(NotAHouse, {"given": wrong}, passed_by, wrong, 0)
            self.refused(NotAHouse, {"given": wrong}, passed_by, wrong, None)
            self.refused(NotAHouse, {"given": wrong}, passed_by, late=21, house=wrong)

    def test_kinds_that_are_not_wished(self):
        for call in (longest_way, way):
            for wrong in NO_NAMES + ("tent", "house", "fla", LikeAll()):
                self.refused(Unwished, {"given": wrong}, call, MINE, PLAIN, wrong)
                self.refused(Unwished, {"given": wrong}, call, kind=wrong, house=PLAIN, standing=MINE)
            # Those ahead wish it, the entry does not.
            self.refused(Unwished, {"given": "tent"}, call, ByWishes(FLAT, ((("tent",), 2),)), PLAIN, "tent")

    def test_no_numbers(self):
        wrongs = [value for value in OTHERS if not (value.__class__ is int and value in (0, 1))]
        for wrong in wrongs + [21, -1, 100, "0", (0,), [0], PLAIN]:
            self.refused(InvalidNumber, {"given": wrong}, passed_by, PLAIN, wrong)
            self.refused(InvalidNumber, {"given": wrong}, passed_by, late=wrong, house=House(3, 9))

    def test_lots_are_no_kinds(self):
        for lot in all_lots(KINDS):
            self.refused(Unwished, {"given": lot}, longest_way, ByNumber(KINDS, 2), PLAIN, lot)
