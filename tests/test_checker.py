"""Points [2], [5] and [16]: what the checker accepts, and certificates bent at one place each."""

import inspect
import itertools
import random

from offerlists.checker import accepts
from offerlists.houses import House
from offerlists.standings import ByKinds, ByNumber, ByWishes
from offerlists.sure import sure
from offerlists.waiting import Waiting
from values import (
    BOTH, FLAT, FOUR, GARDEN, MINE, NO_HOUSES, NO_PLACES, NO_STANDINGS, OTHERS, PLAIN, WORDS, Base, LikeAll, Touchy,
    all_lots, of_people,
)

OWN, HOUSE = str(MINE), str(House(1, 1))
PLACE, TENT = ("place", "flat"), ("place", "tent")
NO_TEXTS = tuple([value for value in OTHERS + (MINE, PLAIN) if not isinstance(value, str)]) + (
    "", "flat", "wishes", OWN + "\n", " " + OWN, OWN.replace("\n", "; "), "wishes flat\nahead 13 people", HOUSE + " ",
    "house wave 4 days 1 silent keep declined keep", b"wishes flat\nahead 1 people",
)
DEEP = (((((((((("flat",),),),),),),),),),)

# One ahead, and each of two flats is given to somebody ahead or waits for nobody.
ONE = str(ByNumber(FLAT, 1))
WAITS = ("waits", ONE, HOUSE, (("flat", 1),))
STORY = (
    (("ann", FLAT), ("me", FLAT)),
    ((PLACE,), (("yes", "ann", 0),)),
)
LONGER = ("longer", str(ByNumber(FLAT, 2)), str(House(1, 2)), "flat", 3)
LONG = ((("ann", FLAT), ("bob", BOTH), ("me", FLAT)), ((PLACE,), (), (), (), (), ()))
WORSE = ("worse", str(ByNumber(BOTH, 1)), str(ByWishes(BOTH, ((FLAT, 1),))))
WHY = ((("garden", 1),), GARDEN, ((("ann", GARDEN), ("me", BOTH)), ((("place", "garden"),), (("yes", "ann", 0),))))
NEVER = ("never worse", OWN, str(MINE.weaker().weaker()))
ROWS = ((FLAT, 3, 3), (GARDEN, 1, 3), (BOTH, 3, 3))
SURE = ("sure", OWN, (("flat", 2), ("garden", 2)))
RIGHT = (
    (SURE, GARDEN), (SURE, BOTH), (WAITS, STORY), (NEVER, ROWS), (WORSE, WHY), (LONGER, LONG),
)


def replaced(value, path, other):
    """A nested tuple with another value at one place."""
    if not path:
        return other
    at = path[0]
    return value[:at] + (replaced(value[at], path[1:], other),) + value[at + 1:]


def paths(value):
    """The paths to all that stands in a nested tuple, itself included."""
    yield ()
    if isinstance(value, tuple):
        for at, inner in enumerate(value):
            yield from [(at, *path) for path in paths(inner)]


def at_path(value, path):
    for at in path:
        value = value[at]
    return value


class Checked(Base):
    def accepted(self, claim, certificate):
        self.assertIs(accepts(claim, certificate), True)

    def rejected(self, claim, certificate):
        self.assertIs(accepts(claim, certificate), False, (claim, certificate))


class Accepts(Checked):
    def test_signature(self):
        self.assertEqual(list(inspect.signature(accepts).parameters), ["claim", "certificate"])
        self.assertEqual(accepts.__module__, "offerlists.checker")
        self.assertIs(accepts(certificate=GARDEN, claim=SURE), True)
        self.assertIs(accepts(SURE, certificate=FLAT), False)

    def test_right_ones(self):
        for claim, certificate in RIGHT:
            self.accepted(claim, certificate)

    def test_each_certificate_for_its_own_claim_alone(self):
        for (claim, _), (_, certificate) in itertools.product(RIGHT, RIGHT):
            if (claim, certificate) not in RIGHT:
                self.rejected(claim, certificate)

    def test_anything_as_a_claim_or_a_certificate(self):
        for wrong in OTHERS + (PLAIN, MINE, DEEP, Waiting(PLAIN, STORY[0])):
            for claim, certificate in RIGHT:
                self.rejected(wrong, certificate)
                self.rejected(claim, wrong)
                self.rejected(wrong, wrong)

    def test_anything_at_every_depth(self):
        """No error and no acceptance, whatever stands in the place of anything; lists in the place of tuples, too."""
        for claim, certificate in RIGHT:
            whole = (claim, certificate)
            for path in paths(whole):
                right = at_path(whole, path)
                wrongs = [value for value in OTHERS if value.__class__ is not right.__class__]
                wrongs += [PLAIN, MINE, DEEP, LikeAll(), Touchy(), (LikeAll(),), (Touchy(), Touchy())]
                if isinstance(right, tuple):
                    wrongs += [list(right), dict(enumerate(right)), right + (None,), right + (LikeAll(),), right + right]
                if isinstance(right, int):
                    wrongs += [str(right), (right,), right == 1]
                if isinstance(right, str):
                    wrongs += [right + " ", " " + right, right.upper(), right.encode(), (right,), [right], "", "flat\n"]
                for wrong in wrongs:
                    # A day that tells nothing is one, too, as long as no part of the history is missing.
                    if isinstance(wrong, tuple) and not wrong and path[:2] == (1, 1):
                        continue
                    bent = replaced(whole, path, wrong)
                    self.assertIs(bent.__class__ is tuple and len(bent) == 2 and accepts(*bent), False, (path, wrong))

    def test_less_and_elsewhere(self):
        """One element less, one twice, or all turned round, at every place."""
        for claim, certificate in RIGHT:
            whole = (claim, certificate)
            found = []
            for path in paths(whole):
                right = at_path(whole, path)
                if path and isinstance(right, tuple):
                    bends = [("less", at, right[:at] + right[at + 1:]) for at in range(len(right))]
                    bends += [("twice", at, right[:at] + right[at:at + 1] + right[at:]) for at in range(len(right))]
                    bends += [("turned", 0, right[::-1])] if right[::-1] != right else []
                    found += [(path, word, at) for word, at, bent in bends if accepts(*replaced(whole, path, bent))]
            self.assertEqual(found, STILL_RIGHT.get((claim[0], certificate), []))

    def test_forms(self):
        for claim, certificate in RIGHT:
            for at in range(len(claim)):
                self.rejected(claim[:at] + claim[at + 1:], certificate)
                self.rejected(claim[:at] + (claim[at],) + claim[at:], certificate)
            for word in ("within", "", "Sure", "never  worse", "never", claim[0] + " ", "wait", None):
                self.rejected((word, *claim[1:]), certificate)

    def test_texts(self):
        for claim, certificate in RIGHT:
            for at, part in enumerate(claim):
                if isinstance(part, str) and "\n" in part or part in (HOUSE, LONGER[2]):
                    for wrong in NO_TEXTS + NO_STANDINGS[-3:] + NO_HOUSES[-4:]:
                        if not isinstance(wrong, str) or wrong != part:
                            self.rejected((*claim[:at], wrong, *claim[at + 1:]), certificate)


# The only bends by which something right becomes something else that is right.
STILL_RIGHT = {
    # Two gardens are enough alone, and tell it alone.
    ("sure", GARDEN): [((0, 2), "less", 0)],
    ("sure", BOTH): [((1,), "less", 0)],
    # By number those ahead may be others, and on one day more nothing happens.
    ("longer", LONG): [((1, 0), "turned", 0), ((1, 0, 1, 1), "less", 1)] + [((1, 1), "twice", at) for at in range(1, 6)],
}


class SureAndNever(Checked):
    def test_more_than_the_bar(self):
        for standing in (MINE, MINE.weaker(), ByNumber(BOTH, 3), *of_people(FOUR, [FOUR] * 12), *of_people(BOTH, [])):
            for lot in all_lots(standing.wishes):
                bar = standing.bar(lot)
                if bar:
                    self.rejected(("sure", str(standing), ((lot[-1], bar),)), lot)
                self.accepted(("sure", str(standing), ((lot[-1], bar + 1),)), lot)
                self.accepted(("sure", str(standing), ((lot[-1], bar + 1), ("x", 20), ("z", 1))), lot)
                self.rejected(("sure", str(standing), (("x", 20), ("z", 20))), lot)

    def test_kinds_that_are_not_wished(self):
        claim = ("sure", OWN, (("flat", 4), ("tent", 20)))
        self.accepted(claim, FLAT)
        for lot in (("tent",), ("flat", "tent"), ("garden", "tent"), ("house",)):
            self.rejected(claim, lot)

    def test_no_lots(self):
        claim = ("sure", OWN, (("flat", 20), ("garden", 20)))
        for wrong in ((), ("garden", "flat"), ("flat", "flat"), ["flat"], "flat", {"flat"}, {"flat": 1}, ("flat", None)):
            self.rejected(claim, wrong)

    def test_places(self):
        for places, _ in NO_PLACES:
            self.rejected(("sure", OWN, places), FLAT)
            self.rejected(("waits", ONE, HOUSE, places), STORY)
            self.rejected(("waits", ONE, HOUSE, places), (STORY[0], ()))

    def test_all_bars(self):
        for one, other in ((MINE, MINE), (MINE, MINE.weaker()), (ByNumber(FOUR, 5), ByNumber(FOUR, 5)),
                           (ByNumber(BOTH, 0), ByWishes(BOTH, ()))):
            claim = ("never worse", str(one), str(other))
            rows = tuple([(lot, one.bar(lot), other.bar(lot)) for lot in all_lots(one.wishes)])
            self.accepted(claim, rows)
            self.rejected(claim, list(rows))
            self.rejected(claim, rows + rows[-1:])
            self.rejected(claim, rows[::-1])
            for at, (lot, bar, above) in enumerate(rows):
                self.rejected(claim, rows[:at] + rows[at + 1:])
                self.rejected(claim, rows[:at] + rows[at:at + 1] + rows[at:])
                for row in ((lot, bar + 1, above), (lot, bar, above + 1), (lot, bar - 1, above), (lot, bar, above, 0),
                            (lot, bar), (lot, above, bar, None), [lot, bar, above], (list(lot), bar, above), (bar, above, lot)):
                    self.rejected(claim, replaced(rows, (at,), row))
                for true in ((lot, True, above), (lot, bar, True), (lot, False, above), (lot, bar, False), (LikeAll(), bar, above)):
                    self.rejected(claim, replaced(rows, (at,), true))

    def test_a_bar_that_is_greater(self):
        one, other = ByWishes(BOTH, ((FLAT, 1), (GARDEN, 1))), ByWishes(BOTH, ((BOTH, 1),))
        for one, other, good in ((one, other, False), (other, one, True)):
            rows = tuple([(lot, one.bar(lot), other.bar(lot)) for lot in all_lots(BOTH)])
            self.assertIs(accepts(("never worse", str(one), str(other)), rows), good)

    def test_other_wishes(self):
        one, other = ByNumber(FLAT, 1), ByNumber(GARDEN, 1)
        self.accepted(("never worse", str(one), str(one)), ((FLAT, 1, 1),))
        for rows in (((FLAT, 1, 1),), ((GARDEN, 1, 1),), ()):
            self.rejected(("never worse", str(one), str(other)), rows)
            self.rejected(("never worse", str(one), str(ByNumber(BOTH, 1))), rows)
        self.rejected(("worse", str(ByNumber(BOTH, 1)), str(ByNumber(GARDEN, 0))), WHY)


class Waits(Checked):
    def bent(self, entries, days, claim=WAITS):
        self.rejected(claim, (entries, days))

    def test_no_places(self):
        claim = ("waits", ONE, HOUSE, ())
        self.accepted(claim, (STORY[0], ()))
        self.accepted(claim, (STORY[0], ((), ())))
        self.rejected(claim, (STORY[0], None))
        self.rejected(claim, (STORY[0],))
        self.rejected(claim, STORY)

    def test_entries_that_do_not_fit(self):
        days = STORY[1]
        for entries in ((), (("me", FLAT),), (("ann", FLAT),), (("ann", FLAT), ("me", BOTH)), (("ann", FLAT), ("me", GARDEN)),
                        (("ann", FLAT), ("bob", FLAT), ("me", FLAT)), (("ann", FLAT), ("ann", FLAT)),
                        tuple([(f"p{at}", FLAT) for at in range(13)]) + (("me", FLAT),)):
            self.bent(entries, days)
        known = ByWishes(FLAT, ((FLAT, 1), (GARDEN, 1)))
        for standing, fine, wrong in (
            (known, ((FLAT, GARDEN), (GARDEN, FLAT)), ((FLAT, FLAT), (BOTH, GARDEN), (FLAT,), (FLAT, GARDEN, GARDEN), (BOTH, ("a",)))),
            (known.weaker(), ((FLAT, GARDEN), (GARDEN, FLAT)), ((BOTH, ("tent",)), (BOTH, BOTH), (FLAT, FLAT), (BOTH,))),
            (ByKinds(FLAT, 2, (("flat", 2), ("garden", 1))), ((FLAT, BOTH), (BOTH, FLAT)), ((BOTH, BOTH), (FLAT, FLAT))),
            (ByNumber(FLAT, 2), ((FLAT, GARDEN), (BOTH, ("a",)), (FOUR, FOUR)), ((FLAT,), (FLAT, FLAT, FLAT), ())),
        ):
            claim = ("waits", str(standing), HOUSE, ())
            for good, lots in [(True, lots) for lots in fine] + [(False, lots) for lots in wrong]:
                entries = tuple([(f"p{at}", lot) for at, lot in enumerate(lots)]) + (("me", FLAT),)
                self.assertIs(accepts(claim, (entries, ())), good)

    def test_twelve_ahead_and_thirteen(self):
        claim = ("waits", str(ByNumber(FLAT, 12)), HOUSE, (("flat", 1),))
        ahead = tuple([(f"p{at}", FLAT) for at in range(12)])
        days = ((PLACE,), (("yes", "p0", 0),))
        self.accepted(claim, (ahead + (("me", FLAT),), days))
        for number in (11, 12):
            claim = ("waits", str(ByNumber(FLAT, number)), HOUSE, (("flat", 1),))
            self.bent((("q", FLAT),) + ahead + (("me", FLAT),), ((PLACE,), (("yes", "q", 0),)), claim)

    def test_days_that_cannot_be(self):
        entries = STORY[0]
        for days in (
            ((PLACE,), (("yes", "ann", 0), ("yes", "ann", 0))), ((PLACE, ("yes", "ann", 0)),), ((PLACE,), (("yes", "me", 0),)),
            ((PLACE,), (("yes", "ann", 1),)), ((PLACE,), (("yes", "ann", False),)), ((PLACE,), (("Yes", "ann", 0),)),
            ((PLACE,), ("yes", "ann", 0)), ((PLACE,), [("yes", "ann", 0)]), (PLACE, (("yes", "ann", 0),)),
            ((PLACE,), (("yes", "ann", 0),), None), ((PLACE,), (("yes", "ann", 0),), (("leave", "ann"),)),
            ((["place", "flat"],), (("yes", "ann", 0),)), [(PLACE,), (("yes", "ann", 0),)],
        ):
            self.bent(entries, days)

    def test_just_these_places(self):
        entries, days = STORY
        self.bent(entries, days, ("waits", ONE, HOUSE, (("flat", 2),)))
        self.bent(entries, days, ("waits", ONE, HOUSE, (("flat", 1), ("tent", 1))))
        self.bent(entries, days, ("waits", ONE, HOUSE, (("garden", 1),)))
        self.bent(entries, days, ("waits", ONE, HOUSE, ()))
        self.bent(entries, days + ((TENT,),))
        self.accepted(("waits", ONE, HOUSE, (("flat", 1), ("tent", 1))), (entries, days + ((TENT,),)))
        self.accepted(("waits", ONE, HOUSE, (("flat", 1), ("tent", 2))), (entries, ((PLACE, TENT), days[1] + (TENT,))))

    def test_at_the_end(self):
        # A place must have been given, or offered to all who wish it.
        claim = ("waits", str(ByNumber(FLAT, 1)), HOUSE, (("flat", 1), ("tent", 1)))
        tent = (("ann", ("flat", "tent")), ("me", FLAT))
        told = STORY[1]
        self.accepted(claim, (tent, (*told, (TENT,))))
        self.accepted(claim, (tent, (*told, (TENT, ("join", "late", FLAT)))))
        late = (*told, (TENT, ("join", "late", ("tent",))))
        self.bent(tent, late, claim)
        self.accepted(claim, (tent, late + ((),)))
        self.accepted(claim, (tent, late + ((("no", "late", 1),),)))
        self.accepted(claim, (tent, late + ((("leave", "late"),),)))
        self.bent(tent, late + ((("leave", "late"), ("join", "late", ("tent",))),), claim)
        self.bent(STORY[0], STORY[1][:1])
        self.bent(STORY[0], ())

    def test_given_to_the_last_entry(self):
        self.bent(STORY[0], ((PLACE,), (), (("yes", "me", 0),)))
        self.bent(STORY[0], ((PLACE,), (("leave", "ann"),), (("yes", "me", 0),)))

    def test_not_prompt(self):
        entries = STORY[0]
        # The other one declines, and the last entry keeps silent, declines or is late.
        for days in (
            ((PLACE,), (("no", "ann", 0),), ()), ((PLACE,), (), ()), ((PLACE,), (("no", "ann", 0),), (("no", "me", 0),)),
        ):
            self.bent(entries, days)
        for word in WORDS:
            for wave, days in itertools.product((1, 2, 3), (2, 9)):
                house = str(House(wave, days, word, word))
                claim = ("waits", ONE, house, (("flat", 1),))
                self.bent(entries, ((PLACE,),) + ((),) * 20, claim)
                self.bent(entries, ((PLACE,), (("no", "ann", 0),), (), (("no", "me", 0),)) if wave == 1 else
                          ((PLACE,), (("no", "me", 0), ("yes", "ann", 0))), claim)
                if wave > 1:
                    # Asked at once with the other one, it must say yes on that very day.
                    self.bent(entries, STORY[1], claim)
                    self.bent(entries, ((PLACE,), (), (("yes", "me", 0), ("yes", "ann", 0))), claim)
                    self.accepted(claim, (entries, ((PLACE,), (("yes", "me", 0), ("yes", "ann", 0)))))
                    self.accepted(claim, (entries, ((PLACE,), (("yes", "ann", 0), ("yes", "me", 0)))))
                else:
                    self.accepted(claim, STORY)

    def test_prompt_for_each_place(self):
        house = str(House(2, 3))
        claim = ("waits", str(ByNumber(FLAT, 2)), house, (("flat", 2),))
        entries = (("ann", FLAT), ("bob", FLAT), ("me", FLAT))
        told = ((PLACE,), (("yes", "ann", 0), PLACE), (("yes", "bob", 1), ("yes", "me", 1)))
        self.accepted(claim, (entries, told))
        self.bent(entries, told[:2] + ((("yes", "bob", 1),),), claim)
        self.bent(entries, told[:2] + ((("yes", "me", 1),), (("yes", "bob", 1),)), claim)

    def test_never_off_the_list(self):
        entries, days = STORY
        leave, join = ("leave", "me"), ("join", "me", FLAT)
        self.bent(entries, days + ((leave,),))
        self.bent(entries, days + ((leave, join),))
        self.bent(entries, days + ((leave,), (join,)))
        self.bent(entries, ((leave, join, PLACE), days[1]))
        self.bent(entries, ((PLACE, leave, join), days[1]))
        self.bent(entries, ((leave, join, leave, join),) + days)
        self.bent(entries, ((leave,), (join, PLACE), days[1]))
        self.bent(entries, (days[0], days[1] + (leave, join)))
        self.bent(entries, (days[0], days[1] + (leave,)))
        self.accepted(WAITS, (entries, ((("join", "eve", FLAT), PLACE), days[1] + (("leave", "eve"),))))

    def test_another_entry_of_the_same_name(self):
        # It is given a flat, and comes again: then it waits, but it has been off the list.
        claim = ("waits", str(ByNumber(FLAT, 0)), HOUSE, (("flat", 1),))
        self.bent((("me", FLAT),), ((PLACE,), (("yes", "me", 0),), (("join", "me", FLAT),)), claim)
        self.bent((("me", FLAT),), ((PLACE,), (("yes", "me", 0),)), claim)

    def test_those_ahead_may_do_anything(self):
        house = House(1, 2, "back", "out")
        claim = ("waits", str(ByNumber(FLAT, 3)), str(house), (("flat", 2),))
        entries = (("ann", FLAT), ("bob", FLAT), ("cid", FLAT), ("me", FLAT))
        days = ((PLACE, ("join", "eve", FLAT)), (("no", "ann", 0),), (PLACE,), (("yes", "bob", 0),), (("yes", "cid", 1),))
        self.assertEqual([name for _, _, name in Waiting(house, entries).led(days).given], ["bob", "cid"])
        self.accepted(claim, (entries, days))
        # Behind a second silent one, it is asked itself.
        self.bent(entries, days[:3] + ((), (("yes", "cid", 1),), ()), claim)

    def test_what_is_accepted_is_true(self):
        """Any history of a prompt entry that is accepted tells of a standing that is not sure."""
        rng = random.Random(23)
        seen = 0
        for _ in range(1500):
            house = House(rng.randint(1, 3), rng.randint(1, 2), rng.choice(WORDS), rng.choice(WORDS))
            lots = [rng.choice((FLAT, GARDEN, BOTH)) for _ in range(rng.randrange(5))]
            entries = tuple([(f"p{at}", lot) for at, lot in enumerate(lots)]) + (("me", rng.choice((FLAT, BOTH))),)
            waiting, days = Waiting(house, entries), []
            standing = rng.choice(of_people(entries[-1][1], lots))
            for day in range(8):
                asked = waiting.asked_next()
                said = [("yes", *pair) for pair in asked if pair[0] == "me" or rng.random() < 0.8]
                come = [("place", rng.choice(("flat", "garden", "tent"))) for _ in range(rng.randrange(3))]
                days.append(tuple(said + (come if day < 3 else [])))
                waiting = waiting.after(days[-1])
            kinds = [event[1] for events in days for event in events if event[0] == "place"]
            places = tuple([(kind, kinds.count(kind)) for kind in ("flat", "garden", "tent") if kind in kinds])
            good = accepts(("waits", str(standing), str(house), places), (entries, tuple(days)))
            self.assertIs(good, "me" in [name for name, _ in waiting.entries])
            self.assertFalse(good and sure(standing, places))
            seen += good
        self.assertGreater(seen, 200)


class Worse(Checked):
    def test_parts_that_do_not_fit(self):
        places, lot, story = WHY
        self.rejected(WORSE, (places, lot))
        self.rejected(WORSE, (places, lot, story, story))
        self.rejected(WORSE, (lot, places, story))
        self.rejected(WORSE, (places, FLAT, story))
        self.rejected(WORSE, (places, BOTH, story))
        self.rejected(WORSE, ((("garden", 2),), lot, story))
        self.rejected(WORSE, ((), lot, story))
        self.rejected(WORSE, (places, lot, (story[0], story[1][:1])))
        self.rejected((WORSE[0], WORSE[2], WORSE[1]), WHY)

    def test_the_house_is_told(self):
        # With more than one day or another wave this history cannot be, or its last entry is not prompt.
        one, other = ByNumber(FLAT, 2), ByNumber(FLAT, 0)
        claim = ("worse", str(one), str(other))
        entries = (("ann", FLAT), ("bob", FLAT), ("me", FLAT))
        for days in (((PLACE,), (("yes", "ann", 0),)), ((PLACE,), (), (("yes", "bob", 0),)), ((PLACE,), (("no", "ann", 0),), (("yes", "bob", 0),))):
            self.accepted(claim, ((("flat", 1),), FLAT, (entries, days)))
        for days in (((PLACE,), (("yes", "bob", 0),)), ((PLACE,), (), (("yes", "ann", 0),)),
                     ((PLACE,), (("yes", "ann", 0), ("yes", "bob", 0))), ((PLACE,), (), (), ())):
            self.rejected(claim, ((("flat", 1),), FLAT, (entries, days)))

    def test_keeps_who_is_silent_or_declines(self):
        claim = ("worse", str(ByNumber(BOTH, 1)), str(ByNumber(BOTH, 0)))
        for said in ((), (("no", "ann", 0),)):
            # Ann keeps her place on the list, ahead of the last entry.
            entries = (("ann", ("garden", "tent")), ("me", BOTH))
            days = ((TENT,), said, (("place", "garden"),), (("yes", "ann", 1),))
            self.accepted(claim, ((("garden", 1), ("tent", 1)), GARDEN, (entries, days)))


class Longer(Checked):
    def test_the_number(self):
        for number in range(6):
            claim = (*LONGER[:4], number)
            self.assertIs(accepts(claim, LONG), number <= 3)
            self.assertIs(accepts(claim, (LONG[0], LONG[1] + ((), ()))), number <= 3)
            # The morning behind the last day is none of the days.
            self.rejected(claim, (LONG[0], LONG[1][:5]))
        for wrong in (-1, True, False, None, "3", (3,), 10 ** 39, -10 ** 39, LikeAll()):
            self.rejected((*LONGER[:4], wrong), LONG)

    def test_zero_days_or_one(self):
        none = ((("me", FLAT),), ((PLACE,), ()))
        self.rejected(("longer", str(ByNumber(FLAT, 0)), HOUSE, "flat", 0), none)
        self.rejected(("longer", str(ByNumber(FLAT, 0)), HOUSE, "flat", -1), none)
        one = (STORY[0], ((PLACE,), (), ()))
        self.accepted(("longer", ONE, HOUSE, "flat", 0), one)
        self.rejected(("longer", ONE, HOUSE, "flat", 1), one)

    def test_the_longest(self):
        ahead = tuple([(f"p{at}", FLAT) for at in range(12)])
        claim = ("longer", str(ByNumber(FLAT, 12)), str(House(1, 9, "out", "out")), "flat", 107)
        story = (ahead + (("me", FLAT),), ((PLACE,),) + ((),) * 109)
        self.accepted(claim, story)
        self.rejected((*claim[:4], 108), story)
        self.rejected(claim, (story[0], story[1][:-1]))

    def test_the_kind(self):
        for kind in ("garden", "tent", "ann", "", None, True, FLAT, LikeAll(), ["flat"]):
            self.rejected((*LONGER[:3], kind, 0), LONG)
        entries = (("ann", FLAT), ("bob", FLAT), ("me", BOTH))
        claim = ("longer", str(ByNumber(BOTH, 2)), LONGER[2], "flat", 3)
        self.accepted(claim, (entries, LONG[1]))
        self.rejected((*claim[:3], "garden", 3), (entries, LONG[1]))

    def test_one_place_alone_on_the_first_day(self):
        entries, days = LONG
        for first in ((), (TENT,), (PLACE, PLACE), (PLACE, TENT), (TENT, PLACE), (PLACE, ("join", "eve", FLAT)),
                      (("join", "eve", FLAT), PLACE), [PLACE], (list(PLACE),), PLACE, ("place", "flat"), None):
            self.rejected(LONGER, (entries, (first, *days[1:])))
        self.rejected(LONGER, (entries, ((), *days)))
        for at in range(1, len(days)):
            for place in (PLACE, TENT):
                self.rejected(LONGER, (entries, days[:at] + ((place,),) + days[at + 1:]))
        self.rejected(LONGER, (entries, ()))
        self.rejected(LONGER, (entries, ((),) * 6))

    def test_others_on_the_way(self):
        entries, days = LONG
        said = (("no", "ann", 0), ("join", "eve", FLAT), ("leave", "eve"), ("join", "eve", BOTH))
        self.accepted(LONGER, (entries, (days[0], (), said, (("leave", "eve"),), *days[4:])))
        # Declining earlier, somebody ahead shortens the way.
        self.rejected(LONGER, (entries, (days[0], said, *days[2:])))
        self.accepted((*LONGER[:4], 2), (entries, (days[0], said, *days[2:])))

    def test_a_place_that_is_given(self):
        entries, days = LONG
        self.rejected(LONGER, (entries, (days[0], (("yes", "ann", 0),), *days[2:])))
        self.rejected((*LONGER[:4], 0), (entries, days[:4] + ((("yes", "bob", 0),), ())))

    def test_the_last_entry_on_the_way(self):
        entries, days = LONG
        leave, join = ("leave", "me"), ("join", "me", FLAT)
        for at in range(1, 5):
            self.rejected(LONGER, (entries, days[:at] + ((leave,),) + days[at + 1:]))
            self.rejected(LONGER, (entries, days[:at] + ((leave, join),) + days[at + 1:]))
            if at < 4:
                self.rejected(LONGER, (entries, days[:at] + ((leave,), (join,)) + days[at + 2:]))

    def test_what_it_does_from_that_day_on(self):
        entries, days = LONG
        leave, join = ("leave", "me"), ("join", "me", GARDEN)
        for more in (((leave,),), ((leave, join),), ((leave,), (join,)), ((("yes", "me", 0),),), ((("no", "me", 0),),),
                     ((), (("no", "me", 0),)), ((), (), (), ()), ((("yes", "me", 0),), (join, ("leave", "bob")))):
            self.accepted(LONGER, (entries, days[:5] + more))
        # All the same the days must be such that can be.
        for more in (((join,),), ((("yes", "ann", 0),),), ((leave, leave),), (None,), ((), None), ((PLACE,),), ((), (TENT,))):
            self.rejected(LONGER, (entries, days[:5] + more))

    def test_entries_that_do_not_fit(self):
        days = LONG[1]
        for entries in ((), (("me", FLAT),), (("ann", FLAT), ("me", FLAT)), (("ann", FLAT), ("bob", FLAT), ("me", BOTH)),
                        (("ann", FLAT), ("bob", GARDEN), ("me", FLAT)), (("a", FLAT), ("b", FLAT), ("c", FLAT), ("me", FLAT))):
            self.rejected(LONGER, (entries, days))
        standing = ByWishes(FLAT, ((FLAT, 1), (GARDEN, 1)))
        self.rejected(("longer", str(standing), LONGER[2], "flat", 0), LONG)
