"""Points [3] to [5] and [15]: desks, and claims that hold after each change."""

import inspect
import random

from offerlists.comparing import parting
from offerlists.desks import Desk
from offerlists.errors import (
    Broken, CannotBe, InUse, InvalidClaim, InvalidName, InvalidPlace, NotAHouse, NotAStanding, NothingToUndo, NotRight,
    NotThere, OtherWishes, UnknownName, Unwished,
)
from offerlists.histories import waits
from offerlists.houses import House
from offerlists.standings import ByKinds, ByNumber, ByWishes
from offerlists.waydays import longest_way
from values import (
    BOTH, FLAT, GARDEN, MINE, NO_HOUSES, NO_NAMES, NO_PLACES, NO_STANDINGS, OTHERS, PLAIN, SIX, Base, LikeAll, Touchy,
    of_people,
)

THREE = ByNumber(BOTH, 3)
SURE = ("sure", "ann", (("flat", 4),))
WITHIN = ("within", "ann", "flat", 3)
NEVER = ("never worse", "ann", "bob")


class Stop(Exception):
    """Ends the rows of a trial."""


class Halt(BaseException):
    """Ends the rows of a trial, too."""


def seen(desk):
    """All that a desk tells."""
    return (str(desk.house), desk.names, [desk[name] for name in desk.names], desk.claims, desk.changes, len(desk))


def led(house, *standings):
    """A desk with these standings under the names ann, bob, cid."""
    desk = Desk(house)
    for name, standing in zip(("ann", "bob", "cid"), standings):
        desk[name] = standing
    return desk


class Desks(Base):
    def unchanged(self, desk, error, told, call, *arguments, **more):
        """The call raises just this error and changes nothing."""
        before = seen(desk)
        self.refused(error, told, call, *arguments, **more)
        self.assertEqual(seen(desk), before)


class Standings(Desks):
    def test_interface(self):
        self.assertEqual(Desk.__module__, "offerlists.desks")
        self.assertEqual(list(inspect.signature(Desk).parameters), ["house"])
        for name, parameters in (
            ("remove", ["name"]), ("change", ["house"]), ("claim", ["claim"]), ("lift", ["index"]), ("undo", []),
            ("trial", []), ("tried", ["action"]),
        ):
            self.assertIn(name, vars(Desk))
            self.assertEqual(list(inspect.signature(getattr(Desk, name)).parameters), ["self", *parameters])
        for name in ("house", "names", "claims", "changes", "__getitem__", "__setitem__", "__contains__", "__len__"):
            self.assertIn(name, vars(Desk))

    def test_at_first(self):
        for desk in (Desk(PLAIN), Desk(house=PLAIN)):
            self.assertEqual(seen(desk), (str(PLAIN), (), [], (), 0, 0))
            self.assertIs(desk.house, PLAIN)
            self.unchanged(desk, NothingToUndo, {}, desk.undo)

    def test_no_houses(self):
        for wrong in NO_HOUSES:
            self.refused(NotAHouse, {"given": wrong}, Desk, wrong)
            self.refused(NotAHouse, {"given": wrong}, Desk, house=wrong)
            desk = led(PLAIN, MINE)
            self.unchanged(desk, NotAHouse, {"given": wrong}, desk.change, wrong)
            self.unchanged(desk, NotAHouse, {"given": wrong}, desk.change, house=wrong)

    def test_true_and_equal_to_itself_alone(self):
        one, other = Desk(PLAIN), Desk(PLAIN)
        self.assertIs(bool(one), True)
        self.assertEqual((one == one, one != one, one == other, one != other, one == None), (True, False, False, True, False))
        trial, more = one.trial(), one.trial()
        self.assertEqual((trial == trial, trial == more, trial != more, bool(trial)), (True, False, True, True))
        one["ann"] = MINE
        self.assertTrue(one == one and one)

    def test_put_and_read(self):
        desk = Desk(PLAIN)
        self.assertIsNone(desk.__setitem__("bob", MINE))
        desk["ann"] = THREE
        desk["z9"] = ByWishes(FLAT, ())
        self.assertEqual(desk.names, ("ann", "bob", "z9"))
        self.assertIs(desk["bob"], MINE)
        self.assertEqual((len(desk), desk.changes), (3, 3))
        desk["bob"] = THREE
        self.assertIs(desk["bob"], THREE)
        self.assertEqual((len(desk), desk.changes), (3, 4))
        desk["abcdefgh"] = MINE
        self.assertIn("abcdefgh", desk)

    def test_in(self):
        desk = led(PLAIN, MINE)
        self.assertIs("ann" in desk, True)
        self.assertIs("bob" in desk, False)
        for wrong in NO_NAMES:
            self.assertIs(wrong in desk, False)

    def test_put_what_is_wrong(self):
        desk = led(PLAIN, MINE)
        for wrong in NO_NAMES:
            self.unchanged(desk, InvalidName, {"given": wrong}, desk.__setitem__, wrong, MINE)
            self.unchanged(desk, InvalidName, {"given": wrong}, desk.__setitem__, wrong, None)
        for wrong in NO_STANDINGS:
            self.unchanged(desk, NotAStanding, {"given": wrong}, desk.__setitem__, "ann", wrong)
            self.unchanged(desk, NotAStanding, {"given": wrong}, desk.__setitem__, "bob", wrong)

    def test_read_and_remove_what_is_not_there(self):
        desk = led(PLAIN, MINE)
        for wrong in NO_NAMES + ("bob", "undo"):
            self.unchanged(desk, UnknownName, {"given": wrong}, desk.__getitem__, wrong)
            self.unchanged(desk, UnknownName, {"given": wrong}, desk.remove, wrong)
            self.unchanged(desk, UnknownName, {"given": wrong}, desk.remove, name=wrong)

    def test_remove(self):
        desk = led(PLAIN, MINE, THREE)
        self.assertIsNone(desk.remove("ann"))
        self.assertEqual((desk.names, desk.changes), (("bob",), 3))
        self.unchanged(desk, UnknownName, {"given": "ann"}, desk.remove, "ann")
        desk.remove(name="bob")
        self.assertEqual((desk.names, len(desk), desk.changes), ((), 0, 4))

    def test_remove_what_a_claim_uses(self):
        desk = led(House(1, 1), MINE, THREE, THREE)
        desk["flat"] = THREE
        desk.claim(("sure", "cid", (("flat", 4),)))
        desk.claim(NEVER)
        desk.claim(WITHIN)
        for name, index in (("ann", 1), ("bob", 1), ("cid", 0)):
            self.unchanged(desk, InUse, {"index": index}, desk.remove, name)
        # A kind of a claim is no name of a standing.
        desk.remove("flat")
        desk.lift(1)
        self.unchanged(desk, InUse, {"index": 1}, desk.remove, "ann")
        desk.remove("bob")

    def test_change(self):
        desk = led(PLAIN, MINE)
        house = House(3, 9)
        self.assertIsNone(desk.change(house))
        self.assertIs(desk.house, house)
        desk.change(house=House(3, 9))
        self.assertEqual((desk.changes, len(desk)), (3, 1))


class Claims(Desks):
    def test_claims_in_their_order(self):
        desk = led(PLAIN, MINE, THREE)
        self.assertIsNone(desk.claim(SURE))
        desk.claim(claim=NEVER)
        desk.claim(WITHIN)
        desk.claim(SURE)
        self.assertEqual(desk.claims, (SURE, NEVER, WITHIN, SURE))
        self.assertIs(desk.claims[1], NEVER)
        self.assertEqual(desk.changes, 6)

    def test_no_claims(self):
        desk = led(PLAIN, MINE, THREE)
        wrongs = OTHERS + (
            "sure", ("sure",), ("sure", "ann"), ("sure", "ann", (("flat", 4),), None), list(SURE), {"sure": "ann"}, (SURE,),
            ("never worse", "ann"), ("never worse", "ann", "bob", "bob"), ("within", "ann", "flat"),
            ("within", "ann", "flat", 3, 3), ("waits", "ann", (("flat", 4),)), ("Sure", "ann", (("flat", 4),)),
            ("never  worse", "ann", "bob"), ("worse", "ann", "bob"), ("longer", "ann", "flat", 3), ("", "ann", "bob"),
            (None, "ann", "bob"), (True, "ann", "bob"), (LikeAll(), "ann", "bob"), (Touchy(), "ann", "bob"),
            (("sure",), "ann", (("flat", 4),)), (["sure"], "ann", (("flat", 4),)), ("sure", (("flat", 4),), "ann"),
        )
        for wrong in wrongs:
            self.unchanged(desk, InvalidClaim, {"given": wrong}, desk.claim, wrong)
            self.unchanged(desk, InvalidClaim, {"given": wrong}, desk.claim, claim=wrong)

    def test_wrong_parts(self):
        desk = led(PLAIN, MINE, THREE)
        wrongs = [("sure", name, places) for places, _ in NO_PLACES for name in ("ann", "eve", None)]
        wrongs += [("within", name, kind, 3) for kind in NO_NAMES for name in ("ann", "eve", None)]
        numbers = [value for value in OTHERS if not (value.__class__ is int and value == 1)] + [100, -99, "3", (3,), PLAIN]
        wrongs += [("within", name, kind, number) for number in numbers for name in ("ann", 1) for kind in ("flat", "tent")]
        for wrong in wrongs:
            self.unchanged(desk, InvalidClaim, {"given": wrong}, desk.claim, wrong)

    def test_unknown_names(self):
        desk = led(PLAIN, MINE, THREE)
        for wrong in NO_NAMES + ("eve", "flat"):
            for claim in (("sure", wrong, (("flat", 4),)), ("sure", wrong, ()), ("never worse", wrong, "bob"),
                          ("never worse", wrong, None), ("never worse", "ann", wrong), ("within", wrong, "flat", 3),
                          ("within", wrong, "tent", 3)):
                self.unchanged(desk, UnknownName, {"given": wrong}, desk.claim, claim)

    def test_unwished(self):
        desk = led(PLAIN, ByWishes(FLAT, ((("tent",), 2),)))
        for kind in ("tent", "garden", "ann"):
            self.unchanged(desk, Unwished, {"given": kind}, desk.claim, ("within", "ann", kind, 99))

    def test_other_wishes(self):
        desk = led(PLAIN, MINE, ByNumber(FLAT, 12))
        self.unchanged(desk, OtherWishes, {}, desk.claim, NEVER)
        self.unchanged(desk, OtherWishes, {}, desk.claim, ("never worse", "bob", "ann"))

    def broken(self, desk, index, shown, call, *arguments):
        """As unchanged, for Broken: what is shown is never a view into the desk, so it can be compared."""
        self.unchanged(desk, Broken, {"index": index, "shown": shown}, call, *arguments)

    def test_claims_that_do_not_hold(self):
        house = House(2, 4, "out", "back")
        desk = led(house, MINE, THREE)
        for at in range(2):
            self.broken(desk, at, waits(MINE, house, (("flat", 3),)), desk.claim, ("sure", "ann", (("flat", 3),)))
            self.broken(desk, at, waits(MINE, house, ()), desk.claim, ("sure", "ann", ()))
            self.broken(desk, at, waits(MINE, house, SIX), desk.claim, ("sure", "ann", SIX))
            self.broken(desk, at, parting(THREE, MINE), desk.claim, ("never worse", "bob", "ann"))
            self.broken(desk, at, 4, desk.claim, ("within", "ann", "flat", 3))
            desk.claim(("within", "ann", "flat", 4))
        self.assertEqual(desk.claims, (("within", "ann", "flat", 4),) * 2)

    def test_at_the_bars_and_one_more(self):
        for standing in (MINE, MINE.weaker(), THREE, *of_people(BOTH, [BOTH] * 12), *of_people(BOTH, [])):
            bar = standing.bar(FLAT)
            desk = led(PLAIN, standing)
            places = (("flat", bar),) if bar else ()
            self.broken(desk, 0, waits(standing, PLAIN, places), desk.claim, ("sure", "ann", places))
            desk.claim(("sure", "ann", (("flat", bar + 1),)))

    def test_days_one_and_ninety_nine(self):
        desk = led(House(1, 1), ByNumber(FLAT, 1), ByNumber(FLAT, 2), ByNumber(FLAT, 12))
        desk.claim(("within", "ann", "flat", 1))
        self.broken(desk, 1, 2, desk.claim, ("within", "bob", "flat", 1))
        desk = led(House(1, 9), ByNumber(FLAT, 11), ByNumber(FLAT, 12))
        desk.claim(("within", "ann", "flat", 99))
        self.broken(desk, 1, 108, desk.claim, ("within", "bob", "flat", 99))

    def test_the_first_claim_that_does_not_hold(self):
        desk = led(House(1, 1), MINE, THREE, THREE)
        for claim in (("within", "cid", "flat", 9), SURE, NEVER, WITHIN):
            desk.claim(claim)
        four = ByNumber(BOTH, 4)
        self.broken(desk, 1, waits(four, desk.house, (("flat", 4),)), desk.__setitem__, "ann", four)
        desk.lift(1)
        self.broken(desk, 1, parting(four, THREE), desk.__setitem__, "ann", four)
        self.broken(desk, 1, parting(MINE, ByNumber(BOTH, 2)), desk.__setitem__, "bob", ByNumber(BOTH, 2))
        desk.lift(1)
        self.broken(desk, 1, 4, desk.__setitem__, "ann", four)
        house = House(1, 4)
        self.broken(desk, 0, 12, desk.change, house)
        desk.lift(0)
        self.broken(desk, 0, longest_way(MINE, house, "flat"), desk.change, house)
        desk.lift(0)
        desk.change(house)
        desk["ann"] = four

    def test_shown_in_the_house_there_would_be(self):
        desk = led(House(1, 1), THREE)
        desk.claim(SURE)
        desk.change(House(3, 9, "out"))
        four = ByNumber(BOTH, 4)
        self.broken(desk, 0, waits(four, House(3, 9, "out"), (("flat", 4),)), desk.__setitem__, "ann", four)

    def test_other_wishes_later(self):
        desk = led(PLAIN, MINE, MINE)
        desk.claim(NEVER)
        flat = ByNumber(FLAT, 0)
        for name in ("ann", "bob"):
            self.broken(desk, 0, None, desk.__setitem__, name, flat)
        desk.lift(0)
        desk.claim(("within", "bob", "garden", 9))
        self.broken(desk, 0, None, desk.__setitem__, "bob", flat)
        desk.claim(("sure", "bob", (("garden", 2),)))
        desk.lift(0)
        self.broken(desk, 0, waits(flat, PLAIN, (("garden", 2),)), desk.__setitem__, "bob", flat)

    def test_put_in_the_place_of_one_with_claims(self):
        desk = led(PLAIN, MINE, MINE.weaker())
        desk.claim(SURE)
        desk.claim(NEVER)
        desk["ann"] = ByKinds(BOTH, 3, (("flat", 3), ("garden", 1)))
        desk["bob"] = THREE
        self.assertEqual(desk.claims, (SURE, NEVER))

    def test_about_itself(self):
        desk = led(PLAIN, MINE)
        claim = ("never worse", "ann", "ann")
        desk.claim(claim)
        desk["ann"] = ByNumber(GARDEN, 12)
        self.unchanged(desk, InUse, {"index": 0}, desk.remove, "ann")

    def test_lift(self):
        desk = led(PLAIN, MINE, THREE)
        for claim in (SURE, NEVER, WITHIN):
            desk.claim(claim)
        self.assertIsNone(desk.lift(1))
        self.assertEqual(desk.claims, (SURE, WITHIN))
        desk.lift(index=1)
        self.assertEqual((desk.claims, desk.changes), ((SURE,), 7))

    def test_lift_what_is_no_index(self):
        desk = led(PLAIN, MINE)
        wrongs = [value for value in OTHERS if not (value.__class__ is int and value in (0, 1))]
        for many in range(3):
            for wrong in wrongs + [many, many + 1, -1, "0", (0,), [0], PLAIN]:
                self.unchanged(desk, InvalidPlace, {"given": wrong}, desk.lift, wrong)
                self.unchanged(desk, InvalidPlace, {"given": wrong}, desk.lift, index=wrong)
            desk.claim(SURE)


class Undo(Desks):
    def test_each_change(self):
        desk = Desk(PLAIN)
        states = [seen(desk)]
        for change in (
            lambda: desk.__setitem__("ann", MINE), lambda: desk.__setitem__("bob", THREE), lambda: desk.claim(SURE),
            lambda: desk.claim(NEVER), lambda: desk.lift(0), lambda: desk.change(House(2, 2)),
            lambda: desk.__setitem__("ann", MINE.weaker()), lambda: desk.lift(0), lambda: desk.remove("bob"),
            # By these nothing becomes other than it was.
            lambda: desk.change(House(2, 2)), lambda: desk.__setitem__("ann", desk["ann"]),
        ):
            change()
            states.append(seen(desk))
            self.assertEqual(desk.changes, len(states) - 1)
        while len(states) > 1:
            states.pop()
            self.assertIsNone(desk.undo())
            self.assertEqual(seen(desk), states[-1])
        self.unchanged(desk, NothingToUndo, {}, desk.undo)

    def test_after_an_undo_the_change_before_it_comes_next(self):
        desk = led(PLAIN, MINE, THREE)
        desk.undo()
        desk["cid"] = THREE
        desk.undo()
        self.assertEqual((desk.names, desk.changes), (("ann",), 1))
        desk.undo()
        self.unchanged(desk, NothingToUndo, {}, desk.undo)

    def test_errors_are_no_changes(self):
        desk = led(PLAIN, MINE)
        for call, wrong in ((desk.remove, "bob"), (desk.change, None), (desk.claim, ("sure", "ann", ())), (desk.lift, 0)):
            with self.assertRaises((NotRight, NotThere, CannotBe)):
                call(wrong)
        self.assertEqual(desk.changes, 1)
        desk.undo()
        self.assertEqual(desk.names, ())


class Trials(Desks):
    def test_rows_that_end_well(self):
        desk = led(PLAIN, MINE)
        with desk.trial() as held:
            self.assertIs(held, desk)
            desk["bob"] = THREE
            held.claim(NEVER)
        self.assertEqual((desk.names, desk.claims, desk.changes), (("ann", "bob"), (NEVER,), 3))
        desk.undo()
        self.assertEqual((desk.names, desk.claims, desk.changes), (("ann", "bob"), (), 2))

    def test_rows_that_end_with_an_exception(self):
        for error in (Stop("x"), Halt("x"), KeyboardInterrupt(), NothingToUndo(), ValueError(1)):
            desk = led(House(2, 2), MINE, THREE)
            desk.claim(SURE)
            before = seen(desk)
            with self.assertRaises(error.__class__) as caught:
                with desk.trial():
                    desk.undo()
                    desk.undo()
                    desk["cid"] = THREE
                    desk.change(PLAIN)
                    desk.remove("ann")
                    raise error
            self.assertIs(caught.exception, error)
            self.assertEqual(seen(desk), before)
            desk.undo()
            self.assertEqual((desk.claims, desk.changes), ((), 2))

    def test_an_error_of_the_desk_ends_a_trial(self):
        desk = led(PLAIN, MINE, THREE)
        before = seen(desk)
        with self.assertRaises(Broken) as caught:
            with desk.trial():
                desk.claim(SURE)
                desk.remove("bob")
                desk["ann"] = ByNumber(BOTH, 12)
        self.assertEqual((caught.exception.index, seen(desk)), (0, before))

    def test_rows_that_are_left(self):
        desk = led(PLAIN, MINE)

        def leave():
            with desk.trial():
                desk["bob"] = THREE
                return "left"

        self.assertEqual(leave(), "left")
        for _ in range(1):
            with desk.trial():
                desk["cid"] = THREE
                break
        self.assertEqual(desk.names, ("ann", "bob", "cid"))

    def test_an_exception_that_is_caught_inside(self):
        desk = led(PLAIN, MINE)
        with desk.trial():
            desk["bob"] = THREE
            try:
                desk.remove("eve")
            except UnknownName:
                desk["cid"] = MINE
        self.assertEqual(desk.names, ("ann", "bob", "cid"))

    def test_as_it_was_when_the_rows_began(self):
        desk = led(PLAIN, MINE)
        trial = desk.trial()
        desk["bob"] = THREE
        with self.assertRaises(Stop):
            with trial:
                desk["cid"] = THREE
                raise Stop
        self.assertEqual((desk.names, desk.changes), (("ann", "bob"), 2))

    def test_within_trials(self):
        desk = led(PLAIN, MINE)
        with desk.trial():
            desk["bob"] = THREE
            with self.assertRaises(Stop):
                with desk.trial() as held:
                    held.remove("ann")
                    with held.trial():
                        held["cid"] = THREE
                    raise Stop
            self.assertEqual((desk.names, desk.changes), (("ann", "bob"), 2))
        self.assertEqual(desk.names, ("ann", "bob"))
        with self.assertRaises(Stop):
            with desk.trial():
                desk.change(House(3, 3))
                with desk.trial():
                    desk.remove("bob")
                raise Stop
        self.assertEqual((desk.names, desk.changes, str(desk.house)), (("ann", "bob"), 2, str(PLAIN)))

    def test_tried(self):
        desk = led(PLAIN, MINE)

        def add(held):
            self.assertIs(held, desk)
            held["bob"] = THREE
            return held.names

        def fail(held):
            held.remove("bob")
            raise Stop("here")

        def both(held):
            held.tried(add)
            with self.assertRaises(Stop):
                held.tried(fail)
            return held.changes

        self.assertEqual(desk.tried(add), ("ann", "bob"))
        self.assertEqual(desk.changes, 2)
        before = seen(desk)
        with self.assertRaises(Stop):
            desk.tried(action=fail)
        self.assertEqual(seen(desk), before)
        self.assertEqual(desk.tried(both), 3)
        self.assertIsNone(desk.tried(lambda held: None))
        self.assertIs(desk.tried(lambda held: held), desk)

    def test_two_desks(self):
        one, other = led(PLAIN, MINE), led(PLAIN, MINE)
        with self.assertRaises(Stop):
            with one.trial():
                one["bob"] = THREE
                other["bob"] = THREE
                raise Stop
        self.assertEqual((one.names, other.names), (("ann",), ("ann", "bob")))


class Many(Desks):
    """Any changes, against a desk that keeps whole copies of itself."""

    def holds(self, claim, house, table):
        one = table[claim[1]]
        if claim[0] == "sure":
            return waits(one, house, claim[2]) is None
        if claim[0] == "never worse":
            return one.wishes == table[claim[2]].wishes and parting(one, table[claim[2]]) is None
        return claim[2] in one.wishes and longest_way(one, house, claim[2]) <= claim[3]

    def some_change(self, rng, house, table, claims):
        """The call of any change, and what there would be behind it."""
        name = rng.choice(("ann", "bob", "cid"))
        chance = rng.random()
        if chance < 0.4:
            standing = rng.choice(of_people(rng.choice((BOTH, BOTH, FLAT)), [rng.choice((FLAT, BOTH))] * rng.randrange(4)))
            return (lambda desk: desk.__setitem__(name, standing)), (house, {**table, name: standing}, claims)
        if chance < 0.5:
            other = House(rng.randint(1, 3), rng.randint(1, 3))
            return (lambda desk: desk.change(other)), (other, table, claims)
        if chance < 0.6:
            left = {key: table[key] for key in table if key != name}
            fine = name in table and not any(name in claim[1:3] for claim in claims)
            return (lambda desk: desk.remove(name)), (house, left, claims) if fine else None
        if chance < 0.75:
            at = rng.randrange(3)
            return (lambda desk: desk.lift(at)), (house, table, claims[:at] + claims[at + 1:]) if at < len(claims) else None
        claim = rng.choice((("sure", name, (("flat", rng.randint(1, 5)),)), ("never worse", name, rng.choice(("ann", "bob"))),
                            ("within", name, rng.choice(BOTH), rng.randint(1, 6))))
        known = all(other in table for other in (claim[1:3] if claim[0] == "never worse" else claim[1:2]))
        return (lambda desk: desk.claim(claim)), (house, table, claims + (claim,)) if known else None

    def test_any_changes(self):
        rng = random.Random(22)
        done = 0
        for _ in range(60):
            desk, states = Desk(PLAIN), [(PLAIN, {}, ())]
            for _ in range(60):
                if rng.random() < 0.15 and len(states) > 1:
                    states.pop()
                    desk.undo()
                call, after = self.some_change(rng, *states[-1])
                if after and all(self.holds(claim, after[0], after[1]) for claim in after[2]):
                    call(desk)
                    states.append(after)
                    done += 1
                else:
                    with self.assertRaises((NotRight, NotThere, CannotBe)):
                        call(desk)
                house, table, claims = states[-1]
                self.assertEqual(seen(desk), (
                    str(house), tuple(sorted(table)), [table[name] for name in sorted(table)], claims, len(states) - 1, len(table),
                ))
        self.assertGreater(done, 1500)
