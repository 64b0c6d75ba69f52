"""Points [3] to [5], [8] and [9]: lists, and how a day goes, row by row."""

import inspect
import unittest

from offerlists.errors import InvalidEntries, InvalidEvents, NotAHouse, TooManyAhead, UnknownName
from offerlists.houses import House
from offerlists.standings import ByNumber, ByWishes
from offerlists.waiting import Waiting

FLAT, GARDEN, BOTH = ("flat",), ("garden",), ("flat", "garden")
KEEP = House(1, 1)
ABC = (("ann", FLAT), ("bob", BOTH), ("cid", FLAT))
THIRTY = tuple([(f"p{at:02}", FLAT) for at in range(30)])
PLACE = ("place", "flat")


class LikeAll:
    """Equals everything, which nothing of the package does."""

    def __eq__(self, other):
        return True


OTHERS = (
    None, True, False, "", "ann", b"ann", [], ["ann"], {}, {"ann": FLAT}, object(), LikeAll(), len, KEEP, House,
    Waiting(KEEP, ()), Waiting, ByNumber(FLAT, 1), ValueError("x"), 0, 1, -1, 10 ** 39,
)
NO_NAMES = tuple([value for value in OTHERS if value.__class__ is not str]) + (
    "", "Ann", "1a", "a b", "ann ", "abcdefghi", "a" * 4000, ("ann",), ("ann", FLAT), (),
)
NO_LOTS = OTHERS + ((), "flat", ("flat", "flat"), ("garden", "flat"), ("a", "b", "c", "d", "e"), ("Flat",), (None,),
                    (True,), ("flat", 1), ["flat"], (("flat",),), (("flat",), 1), (LikeAll(),), (KEEP,))
NO_TUPLES = OTHERS + ([], [PLACE], {0: PLACE}, iter(()))


def names(waiting):
    return [name for name, _ in waiting.entries]


def offers(waiting):
    return [place[3] for place in waiting.places]


def seen(waiting):
    return (waiting.house, waiting.entries, waiting.places, waiting.day, waiting.given)


def come(house, entries, *kinds):
    """A list on whose first day these places came, and nothing else."""
    return Waiting(house, entries).after(tuple([("place", kind) for kind in kinds]))


class Base(unittest.TestCase):
    def refused(self, error, told, call, *arguments, **more):
        with self.assertRaises(error) as caught:
            call(*arguments, **more)
        self.assertIs(caught.exception.__class__, error)
        if error in (InvalidEntries, InvalidEvents):
            self.assertEqual(caught.exception.index, told)
            self.assertIs(caught.exception.index.__class__, told.__class__)
        elif error is TooManyAhead:
            self.assertEqual(caught.exception.many, told)
        else:
            self.assertIs(caught.exception.given, told)


class Beginning(Base):
    def test_interface(self):
        self.assertEqual(Waiting.__module__, "offerlists.waiting")
        self.assertEqual(list(inspect.signature(Waiting).parameters), ["house", "entries"])
        for name, parameters in (("asked_next", []), ("after", ["events"]), ("led", ["days"]), ("standing", ["name"])):
            self.assertIn(name, vars(Waiting))
            self.assertEqual(list(inspect.signature(getattr(Waiting, name)).parameters), ["self", *parameters])

    def test_by_position_and_by_name(self):
        for waiting in (Waiting(KEEP, ABC), Waiting(entries=ABC, house=KEEP), Waiting(KEEP, entries=ABC)):
            self.assertEqual(seen(waiting), (KEEP, ABC, (), 1, ()))
            self.assertEqual(waiting.asked_next(), ())

    def test_no_entries(self):
        waiting = Waiting(KEEP, ())
        self.assertEqual(seen(waiting), (KEEP, (), (), 1, ()))
        self.assertEqual(seen(waiting.after((PLACE,)).after(())), (KEEP, (), ((0, "flat", (), ()),), 3, ()))

    def test_thirty_and_one_more(self):
        self.assertEqual(Waiting(KEEP, THIRTY).entries, THIRTY)
        self.refused(InvalidEntries, 30, Waiting, KEEP, THIRTY + (("more", FLAT),))
        self.refused(InvalidEntries, 30, Waiting, KEEP, THIRTY + (None, None))
        self.refused(InvalidEntries, 7, Waiting, KEEP, THIRTY[:7] + (None,) + THIRTY)
        self.refused(InvalidEntries, 29, Waiting, KEEP, THIRTY[:29] + THIRTY)

    def test_no_house(self):
        for wrong in OTHERS + (str(KEEP), (1, 1), (KEEP,)):
            if wrong is not KEEP:
                self.refused(NotAHouse, wrong, Waiting, wrong, ABC)
                self.refused(NotAHouse, wrong, Waiting, wrong, None)
                self.refused(NotAHouse, wrong, Waiting, entries=None, house=wrong)

    def test_no_tuple_of_entries(self):
        for wrong in OTHERS + (list(ABC), dict(ABC), iter(ABC)):
            self.refused(InvalidEntries, None, Waiting, KEEP, wrong)
            self.refused(InvalidEntries, None, Waiting, entries=wrong, house=KEEP)

    def test_wrong_entries(self):
        wrongs = list(OTHERS) + [(), ("ann",), ("ann", FLAT, FLAT), (FLAT, "ann"), ["ann", FLAT], {"ann": FLAT}, (ABC[0],)]
        wrongs += [(wrong, FLAT) for wrong in NO_NAMES] + [("ann", wrong) for wrong in NO_LOTS]
        for wrong in wrongs:
            self.refused(InvalidEntries, 0, Waiting, KEEP, (wrong,))
            self.refused(InvalidEntries, 0, Waiting, KEEP, (wrong, None))
            self.refused(InvalidEntries, 1, Waiting, KEEP, (("eve", FLAT), wrong, ("eve", FLAT)))

    def test_a_name_of_one_before(self):
        self.refused(InvalidEntries, 1, Waiting, KEEP, (("ann", FLAT), ("ann", FLAT)))
        self.refused(InvalidEntries, 3, Waiting, KEEP, ABC + (("bob", GARDEN), ("ann", FLAT)))

    def test_properties_are_not_set(self):
        waiting = Waiting(KEEP, ABC)
        for name in ("house", "entries", "places", "day"):
            with self.assertRaises(AttributeError):
                setattr(waiting, name, ())


class Document(Base):
    def test_the_example(self):
        house = House(2, 3, "back")
        waiting = Waiting(house, ABC)
        later = waiting.after((PLACE,))
        self.assertEqual([later.day, later.places, later.asked_next(), str(house)], [
            2, ((0, "flat", (), ()),), (("ann", 0), ("bob", 0)), "house wave 2 days 3 silent back declined keep",
        ])
        later = later.after((("no", "bob", 0),))
        self.assertEqual([later.entries[0], later.places, later.led(((), ())).entries], [
            ("ann", FLAT), ((0, "flat", ("ann", "bob"), (("ann", 4),)),), (("bob", BOTH), ("cid", FLAT), ("ann", FLAT)),
        ])
        self.assertEqual(later.led(((), (), (("yes", "cid", 0),))).given, ((0, "flat", "cid"),))
        self.assertEqual(repr(waiting.standing("cid")), "Standing by wishes with 2 ahead")


class Morning(Base):
    def test_as_many_as_the_wave_says_or_fewer(self):
        for wave in (1, 2, 3):
            waiting = come(House(wave, 1), ABC, "flat")
            asked = names(waiting)[:wave]
            self.assertEqual(waiting.asked_next(), tuple([(name, 0) for name in asked]))
            self.assertEqual(come(House(wave, 1), ABC, "garden").asked_next(), (("bob", 0),))
            self.assertEqual(come(House(wave, 1), ABC, "house").asked_next(), ())
            self.assertEqual(waiting.after(()).places[0][2], tuple(asked))
            rest = names(waiting)[wave:2 * wave]
            self.assertEqual(waiting.after(()).asked_next(), tuple([(name, 0) for name in rest]))

    def test_last_days(self):
        for days in range(1, 10):
            waiting = come(House(1, days), ABC, "flat")
            for day in range(2, 1 + days):
                waiting = waiting.after(())
                self.assertEqual(waiting.places, ((0, "flat", ("ann",), (("ann", 1 + days),)),))
                self.assertEqual((waiting.day, waiting.asked_next()), (day + 1, ()))
            waiting = waiting.after(())
            self.assertEqual(waiting.places, ((0, "flat", ("ann",), ()),))
            self.assertEqual((waiting.day, waiting.asked_next()), (days + 2, (("bob", 0),)))

    def test_places_in_the_order_of_their_numbers(self):
        waiting = come(House(2, 2), ABC, "garden", "flat", "flat")
        self.assertEqual(waiting.asked_next(), (("bob", 0), ("ann", 1), ("bob", 1), ("ann", 2), ("bob", 2)))
        self.assertEqual(offers(waiting.after(())), [(("bob", 3),), (("ann", 3), ("bob", 3)), (("ann", 3), ("bob", 3))])

    def test_in_the_order_of_the_list_as_it_is(self):
        waiting = come(House(1, 1, "back"), ABC, "flat").after(())
        self.assertEqual(names(waiting), ["bob", "cid", "ann"])
        self.assertEqual(waiting.asked_next(), (("bob", 0),))
        self.assertEqual(waiting.after((PLACE,)).asked_next(), (("cid", 0), ("cid", 1)))

    def test_no_wave_while_an_offer_is_open(self):
        waiting = come(House(2, 3), ABC, "flat").after((("no", "ann", 0),))
        self.assertEqual((waiting.asked_next(), offers(waiting)), ((), [(("bob", 4),)]))
        self.assertEqual(waiting.after((("leave", "bob"),)).asked_next(), (("cid", 0),))

    def test_who_came_later_is_asked_too(self):
        waiting = come(KEEP, (("ann", FLAT),), "flat").led(((), ()))
        self.assertEqual(waiting.asked_next(), ())
        waiting = waiting.after((("join", "eve", FLAT), ("join", "fay", GARDEN)))
        self.assertEqual(waiting.asked_next(), (("eve", 0),))
        self.assertEqual(waiting.after(()).places, ((0, "flat", ("ann", "eve"), ()),))

    def test_a_place_is_offered_from_the_next_morning_on(self):
        waiting = Waiting(House(3, 9), ABC).after((PLACE, ("join", "eve", FLAT)))
        self.assertEqual(waiting.places, ((0, "flat", (), ()),))
        self.refused(InvalidEvents, 1, Waiting(KEEP, ABC).after, (PLACE, ("yes", "ann", 0)))
        self.refused(InvalidEvents, 0, waiting.after, (("yes", "eve", 0),))
        self.assertEqual(waiting.after((("yes", "cid", 0),)).given, ((0, "flat", "cid"),))

    def test_asked_next_changes_nothing(self):
        waiting = come(House(2, 2), ABC, "flat", "garden")
        before = seen(waiting)
        self.assertEqual(waiting.asked_next(), waiting.asked_next())
        self.assertEqual(seen(waiting), before)


class ByDay(Base):
    def test_numbers_of_places(self):
        waiting = Waiting(KEEP, ABC).after((PLACE, ("place", "garden"), PLACE))
        self.assertEqual([place[:2] for place in waiting.places], [(0, "flat"), (1, "garden"), (2, "flat")])
        waiting = waiting.after((("yes", "bob", 1), PLACE))
        self.assertEqual(waiting.given, ((1, "garden", "bob"),))
        self.assertEqual([place[0] for place in waiting.places], [0, 2, 3])
        self.assertEqual([place[0] for place in waiting.after((("place", "a"),)).places], [0, 2, 3, 4])

    def test_join_and_leave(self):
        waiting = Waiting(KEEP, ABC).after((("leave", "ann"), ("join", "eve", GARDEN), ("join", "ann", GARDEN)))
        self.assertEqual(waiting.entries, (("bob", BOTH), ("cid", FLAT), ("eve", GARDEN), ("ann", GARDEN)))
        waiting = Waiting(KEEP, ()).after((("join", "ann", FLAT), ("leave", "ann"), ("join", "ann", BOTH)))
        self.assertEqual(waiting.entries, (("ann", BOTH),))

    def test_joins_to_thirty_and_one_more(self):
        more = ("join", "more", FLAT)
        waiting = Waiting(KEEP, THIRTY[:29]).after((more,))
        self.assertEqual(waiting.entries, THIRTY[:29] + (("more", FLAT),))
        self.refused(InvalidEvents, 0, waiting.after, (("join", "eve", FLAT),))
        self.refused(InvalidEvents, 0, Waiting(KEEP, THIRTY).after, (more,))
        self.refused(InvalidEvents, 2, Waiting(KEEP, THIRTY).after, (("leave", "p03"), more, ("join", "eve", FLAT)))
        left = Waiting(KEEP, THIRTY).after((("leave", "p03"), more))
        self.assertEqual((len(left.entries), left.entries[-1]), (30, ("more", FLAT)))

    def test_leaving_ends_offers_and_answers(self):
        waiting = come(House(2, 3, "out", "out"), ABC, "flat", "flat")
        later = waiting.after((("yes", "ann", 0), ("no", "ann", 1), ("leave", "ann")))
        self.assertEqual((names(later), later.given), (["bob", "cid"], ()))
        self.assertEqual(later.places, ((0, "flat", ("bob",), (("bob", 4),)), (1, "flat", ("bob",), (("bob", 4),))))
        both = waiting.after((("yes", "ann", 0), ("yes", "bob", 0), ("leave", "ann")))
        self.assertEqual(both.given, ((0, "flat", "bob"),))

    def test_a_name_that_comes_again_is_a_new_entry(self):
        waiting = come(House(1, 2), ABC, "flat").after(())
        self.assertEqual(waiting.places, ((0, "flat", ("ann",), (("ann", 3),)),))
        later = waiting.after((("leave", "ann"), ("join", "ann", BOTH)))
        self.assertEqual(later.places, ((0, "flat", (), ()),))
        self.assertEqual([later.asked_next(), names(later)], [(("bob", 0),), ["bob", "cid", "ann"]])
        later = later.led(((), (), (), ()))
        self.assertEqual([later.places, later.asked_next()], [((0, "flat", ("bob", "cid"), ()),), (("ann", 0),)])
        self.refused(InvalidEvents, 2, waiting.after, (("leave", "ann"), ("join", "ann", FLAT), ("yes", "ann", 0)))

    def test_what_a_name_said_before_it_came_again_is_nothing(self):
        for word in ("keep", "back", "out"):
            house = House(2, 1, "keep", word)
            said = (("no", "ann", 0), ("yes", "ann", 1), ("leave", "ann"), ("join", "ann", FLAT))
            later = come(house, ABC, "flat", "flat").after(said)
            self.assertEqual((names(later), later.given), (["bob", "cid", "ann"], ()))
            self.assertEqual(later.places, ((0, "flat", ("bob",), ()), (1, "flat", ("bob",), ())))
            self.assertEqual(later.asked_next(), (("cid", 0), ("ann", 0), ("cid", 1), ("ann", 1)))

    def test_silence_of_a_name_that_came_again_is_nothing(self):
        later = come(House(1, 1, "out"), ABC, "flat").after((("leave", "ann"), ("join", "ann", FLAT)))
        self.assertEqual([names(later), later.asked_next()], [["bob", "cid", "ann"], (("bob", 0),)])

    def test_a_name_comes_again_behind_a_place_and_behind_out(self):
        waiting = come(House(1, 1, "out"), ABC, "flat", "flat").after((("yes", "ann", 0),))
        self.assertEqual([waiting.given, waiting.places], [((0, "flat", "ann"),), ((1, "flat", (), ()),)])
        waiting = waiting.after((("join", "ann", FLAT),))
        self.assertEqual([names(waiting), waiting.asked_next()], [["cid", "ann"], (("cid", 1),)])
        waiting = waiting.after((("join", "bob", FLAT),))
        self.assertEqual([names(waiting), waiting.asked_next()], [["ann", "bob"], (("ann", 1),)])
        waiting = waiting.after((("yes", "ann", 1),))
        self.assertEqual(waiting.given, ((0, "flat", "ann"), (1, "flat", "ann")))

    def test_answers_of_one_day_in_any_order(self):
        waiting = come(House(3, 2), ABC, "flat", "flat")
        one = waiting.after((("yes", "cid", 0), ("no", "ann", 1), ("yes", "bob", 0), PLACE))
        other = waiting.after((PLACE, ("yes", "bob", 0), ("yes", "cid", 0), ("no", "ann", 1)))
        self.assertEqual(one, other)
        self.assertEqual(one.given, ((0, "flat", "bob"),))


class CannotBe(Base):
    def test_no_tuples(self):
        waiting = Waiting(KEEP, ABC)
        for wrong in NO_TUPLES:
            self.refused(InvalidEvents, None, waiting.after, wrong)
            self.refused(InvalidEvents, None, waiting.after, events=wrong)
            self.refused(InvalidEvents, None, waiting.led, wrong)
            self.refused(InvalidEvents, None, waiting.led, days=wrong)
            self.refused(InvalidEvents, 0, waiting.led, (wrong,))
            self.refused(InvalidEvents, 2, waiting.led, ((), (PLACE,), wrong, None))

    def test_no_events(self):
        waiting = come(House(2, 2), ABC, "flat")
        wrongs = list(OTHERS) + [
            (), ("place",), ("place", "flat", 1), ("flat", "place"), ("place", FLAT), ["place", "flat"],
            {"place": "flat"}, ("Place", "flat"), ("places", "flat"), ("", "flat"), (None, "flat"), (LikeAll(), "flat"),
            (True, "flat"), (("place",), "flat"), (b"place", "flat"), ("join",), ("join", "eve"), ("join", "eve", FLAT, 1),
            ("join", FLAT, "eve"), ("leave",), ("leave", "ann", 0), ("leave", "ann", FLAT), ("yes",), ("yes", "ann"),
            ("yes", "ann", 0, 0), ("yes", 0, "ann"), ("no", "ann"), ("no",), ("Yes", "ann", 0), (PLACE,), ("maybe", "ann", 0),
            (LikeAll(), LikeAll()), (LikeAll(), "ann", 0), ("place", "flat", "flat"), "place flat", "place",
        ]
        wrongs += [("place", wrong) for wrong in NO_NAMES]
        wrongs += [("leave", wrong) for wrong in NO_NAMES]
        wrongs += [("join", wrong, FLAT) for wrong in NO_NAMES] + [("join", "eve", wrong) for wrong in NO_LOTS]
        for word in ("yes", "no"):
            wrongs += [(word, wrong, 0) for wrong in NO_NAMES]
            wrongs += [(word, "ann", wrong) for wrong in OTHERS + ("0", (0,), [0], {0: 0}) if wrong.__class__ is not int]
            wrongs += [(word, "ann", wrong) for wrong in (-1, 1, 2, 10 ** 39, -10 ** 39)]
        for wrong in wrongs:
            with self.subTest(wrong=wrong):
                self.refused(InvalidEvents, 0, waiting.after, (wrong,))
                self.refused(InvalidEvents, 1, waiting.after, (("yes", "ann", 0), wrong, None))
                self.refused(InvalidEvents, 0, waiting.led, ((wrong,), None))

    def test_a_number_is_no_truth_value(self):
        waiting = come(House(2, 2), ABC, "flat", "flat")
        self.assertEqual(waiting.after((("yes", "ann", 1),)).given, ((1, "flat", "ann"),))
        for wrong in (True, False):
            self.refused(InvalidEvents, 0, waiting.after, (("yes", "ann", wrong),))
            self.refused(InvalidEvents, 0, waiting.after, (("no", "ann", wrong),))

    def test_what_cannot_be_at_its_place(self):
        waiting = come(House(2, 2), ABC, "flat", "garden")
        for index, events in (
            (0, (("join", "ann", FLAT),)), (1, (("join", "eve", FLAT), ("join", "eve", FLAT))), (0, (("leave", "eve"),)),
            (1, (("leave", "ann"), ("leave", "ann"))), (1, (("leave", "ann"), ("yes", "ann", 0))),
            (1, (("yes", "ann", 0), ("yes", "ann", 0))), (1, (("yes", "ann", 0), ("no", "ann", 0))),
            (1, (("no", "ann", 0), ("yes", "ann", 0))), (1, (("no", "ann", 0), ("no", "ann", 0))),
            (0, (("yes", "cid", 0),)), (0, (("no", "cid", 0),)), (0, (("yes", "ann", 1),)), (0, (("yes", "eve", 0),)),
            (1, (PLACE, ("yes", "ann", 2))), (2, (("join", "eve", FLAT), PLACE, ("no", "eve", 0))),
            (1, (("yes", "ann", 0), ("join", "ann", FLAT))), (2, (PLACE, ("yes", "bob", 1), ("leave", "eve"), None)),
        ):
            with self.subTest(events=events):
                self.refused(InvalidEvents, index, waiting.after, events)
                self.refused(InvalidEvents, index, waiting.after, events=events + (None,))
                self.refused(InvalidEvents, 1, waiting.led, ((), (PLACE, None), None))
                self.refused(InvalidEvents, 0, waiting.led, (events, None))

    def test_answers_to_offers_that_have_ended(self):
        waiting = come(House(1, 2), ABC, "flat").after((("no", "ann", 0),))
        self.refused(InvalidEvents, 0, waiting.after, (("yes", "ann", 0),))
        expired = come(House(1, 2), ABC, "flat").led(((), ()))
        self.refused(InvalidEvents, 0, expired.after, (("yes", "ann", 0),))
        given = come(House(2, 2), ABC, "flat").after((("yes", "ann", 0),))
        self.refused(InvalidEvents, 0, given.after, (("yes", "bob", 0),))

    def test_nothing_is_changed_then(self):
        waiting = come(House(2, 2), ABC, "flat")
        before, next_ones = seen(waiting), waiting.asked_next()
        self.refused(InvalidEvents, 3, waiting.after, (("leave", "ann"), PLACE, ("yes", "bob", 0), ("leave", "ann")))
        self.refused(InvalidEvents, 1, waiting.led, ((("leave", "ann"), PLACE), (("leave", "ann"),)))
        self.assertEqual((seen(waiting), waiting.asked_next()), (before, next_ones))

    def test_the_first_day_that_cannot_be(self):
        waiting = Waiting(KEEP, ABC)
        self.refused(InvalidEvents, 2, waiting.led, ((PLACE,), (("yes", "ann", 0),), (("yes", "ann", 0),), None))
        self.refused(InvalidEvents, 0, waiting.led, (PLACE,))
        self.refused(InvalidEvents, 1, waiting.led, ((PLACE,), [("yes", "ann", 0)]))


class Given(Base):
    def test_the_first_on_the_list_of_those_who_said_yes(self):
        waiting = come(House(3, 2), ABC, "flat").after((("yes", "cid", 0), ("yes", "bob", 0)))
        self.assertEqual(seen(waiting), (House(3, 2), (("ann", FLAT), ("cid", FLAT)), (), 3, ((0, "flat", "bob"),)))

    def test_in_the_order_of_the_list_not_of_asking(self):
        # ann goes to the end while bob and cid wait, so bob is ahead of her though she was asked first.
        house = House(3, 3, "keep", "back")
        waiting = come(house, ABC, "flat", "flat").after((("no", "ann", 1),))
        self.assertEqual(names(waiting), ["bob", "cid", "ann"])
        self.assertEqual(offers(waiting), [(("ann", 4), ("bob", 4), ("cid", 4)), (("bob", 4), ("cid", 4))])
        later = waiting.after((("yes", "ann", 0), ("yes", "cid", 0)))
        self.assertEqual(later.given, ((0, "flat", "cid"),))

    def test_who_has_one_place_gets_no_other_one(self):
        waiting = come(House(3, 2), ABC, "flat", "flat", "garden")
        everything = tuple([("yes", name, number) for name in ("ann", "bob", "cid") for number in (0, 1)])
        later = waiting.after(everything + (("yes", "bob", 2),))
        self.assertEqual(later.given, ((0, "flat", "ann"), (1, "flat", "bob")))
        self.assertEqual((later.entries, later.places), ((("cid", FLAT),), ((2, "garden", (), ()),)))

    def test_answers_crossing_each_other(self):
        # Both places are given on one evening: who has the first leaves the second to the other one.
        waiting = come(House(2, 2), (("ann", BOTH), ("bob", BOTH)), "garden", "flat")
        later = waiting.after((("yes", "ann", 1), ("yes", "bob", 0), ("yes", "bob", 1), ("yes", "ann", 0)))
        self.assertEqual((later.given, later.entries), (((0, "garden", "ann"), (1, "flat", "bob")), ()))
        later = waiting.after((("yes", "ann", 1), ("yes", "bob", 0), ("no", "bob", 1), ("no", "ann", 0)))
        self.assertEqual(later.given, ((0, "garden", "bob"), (1, "flat", "ann")))

    def test_a_place_stays_if_all_who_said_yes_have_another_one(self):
        waiting = come(House(1, 2), ABC, "flat", "flat")
        later = waiting.after((("yes", "ann", 1), ("yes", "ann", 0)))
        self.assertEqual(later.given, ((0, "flat", "ann"),))
        self.assertEqual((later.places, later.asked_next()), (((1, "flat", (), ()),), (("bob", 1),)))

    def test_other_offers_of_who_has_a_place_end(self):
        waiting = come(House(2, 3), ABC, "flat", "garden")
        later = waiting.after((("yes", "bob", 1),))
        self.assertEqual(later.given, ((1, "garden", "bob"),))
        self.assertEqual(later.places, ((0, "flat", ("ann",), (("ann", 4),)),))

    def test_rows_of_given_over_days(self):
        waiting = come(KEEP, ABC, "flat", "flat", "garden").after((("yes", "bob", 2),))
        waiting = waiting.after((("yes", "cid", 0), ("yes", "cid", 1)))
        self.assertEqual(waiting.given, ((2, "garden", "bob"), (0, "flat", "cid")))

    def test_yes_without_a_place_has_no_word(self):
        for word in ("keep", "back", "out"):
            waiting = come(House(3, 1, word, word), ABC, "flat").after((("yes", "ann", 0), ("yes", "bob", 0), ("no", "cid", 0)))
            left = {"keep": ["bob", "cid"], "back": ["bob", "cid"], "out": ["bob"]}[word]
            self.assertEqual((names(waiting), waiting.given), (left, ((0, "flat", "ann"),)))


class Words(Base):
    def test_declined(self):
        for word, left in (("keep", ["ann", "bob", "cid"]), ("back", ["bob", "cid", "ann"]), ("out", ["bob", "cid"])):
            waiting = come(House(1, 3, "keep", word), ABC, "flat").after((("no", "ann", 0),))
            asked = () if word == "out" else ("ann",)
            self.assertEqual((names(waiting), waiting.places), (left, ((0, "flat", asked, ()),)))
            self.assertEqual(waiting.asked_next(), (("bob", 0),))

    def test_silent(self):
        for word, left in (("keep", ["ann", "bob", "cid"]), ("back", ["bob", "cid", "ann"]), ("out", ["bob", "cid"])):
            for days in (1, 2, 9):
                waiting = come(House(1, days, word), ABC, "flat").led(((),) * (days - 1))
                self.assertEqual(names(waiting), ["ann", "bob", "cid"])
                waiting = waiting.after(())
                asked = () if word == "out" else ("ann",)
                self.assertEqual((names(waiting), waiting.places), (left, ((0, "flat", asked, ()),)))

    def test_each_word_for_each(self):
        for silent in ("keep", "back", "out"):
            for declined in ("keep", "back", "out"):
                entries = ABC + (("dan", FLAT),)
                waiting = come(House(3, 1, silent, declined), entries, "flat").after((("no", "bob", 0),))
                left = ["ann", "bob", "cid", "dan"]
                if declined != "keep":
                    left.remove("bob")
                if declined == "back":
                    left.append("bob")
                if silent != "keep":
                    left = [name for name in left if name not in ("ann", "cid")]
                if silent == "back":
                    left += ["ann", "cid"]
                self.assertEqual(names(waiting), left)
                self.assertEqual(waiting.asked_next(), (("dan", 0),))

    def test_several_go_to_the_end_in_the_order_of_the_list(self):
        waiting = come(House(3, 1, "back", "back"), ABC, "flat", "flat")
        later = waiting.after((("no", "cid", 0), ("no", "bob", 1), ("no", "cid", 1)))
        # bob and cid have said no and go first; then ann, bob and cid were silent or not in the order that then is.
        self.assertEqual(names(later), ["cid", "ann", "bob"])

    def test_once_for_several_times_no(self):
        waiting = come(House(3, 2, "keep", "back"), ABC, "flat", "flat", "flat")
        later = waiting.after(tuple([("no", name, number) for number in (2, 0, 1) for name in ("cid", "ann")]))
        self.assertEqual(names(later), ["bob", "ann", "cid"])
        self.assertEqual(offers(later), [(("bob", 3),)] * 3)

    def test_once_for_several_silences(self):
        waiting = come(House(2, 1, "back"), ABC, "flat", "flat", "garden").after(())
        self.assertEqual((names(waiting), offers(waiting)), (["cid", "ann", "bob"], [(), (), ()]))

    def test_no_counts_if_the_place_was_given_on_this_evening(self):
        for word, left in (("keep", ["ann", "cid"]), ("back", ["cid", "ann"]), ("out", ["cid"])):
            waiting = come(House(3, 2, "keep", word), ABC, "flat").after((("no", "ann", 0), ("yes", "bob", 0)))
            self.assertEqual((names(waiting), waiting.given), (left, ((0, "flat", "bob"),)))

    def test_silence_does_not_count_if_the_place_was_given_on_this_evening(self):
        waiting = come(House(3, 1, "out"), ABC, "flat").after((("yes", "bob", 0),))
        self.assertEqual(names(waiting), ["ann", "cid"])
        two = come(House(3, 1, "out"), ABC, "flat", "garden").after((("yes", "cid", 0),))
        self.assertEqual((names(two), two.places), (["ann"], ((1, "garden", (), ()),)))

    def test_no_of_who_has_another_place_does_not_count(self):
        waiting = come(House(3, 1, "keep", "back"), ABC, "flat", "flat").after((("no", "ann", 0), ("yes", "ann", 1)))
        self.assertEqual((names(waiting), waiting.given), (["bob", "cid"], ((1, "flat", "ann"),)))

    def test_who_goes_to_the_end_has_all_other_offers_still(self):
        waiting = come(House(2, 3, "out", "back"), ABC, "flat", "flat").after((("no", "ann", 0),))
        self.assertEqual(names(waiting), ["bob", "cid", "ann"])
        self.assertEqual(waiting.places, (
            (0, "flat", ("ann", "bob"), (("bob", 4),)), (1, "flat", ("ann", "bob"), (("ann", 4), ("bob", 4))),
        ))
        self.assertEqual(waiting.after((("yes", "ann", 1),)).given, ((1, "flat", "ann"),))
        # Who is silent with one place has an open offer for the other one, which came a day later.
        later = come(House(1, 2, "back"), ABC, "flat").led(((PLACE,), ()))
        self.assertEqual((names(later), later.places), (["bob", "cid", "ann"], (
            (0, "flat", ("ann",), ()), (1, "flat", ("ann",), (("ann", 4),)),
        )))

    def test_who_is_out_has_no_offers(self):
        waiting = come(House(2, 3, "keep", "out"), ABC, "flat", "flat").after((("no", "ann", 0),))
        self.assertEqual(waiting.places, ((0, "flat", ("bob",), (("bob", 4),)), (1, "flat", ("bob",), (("bob", 4),))))
        self.refused(InvalidEvents, 0, waiting.after, (("yes", "ann", 1),))

    def test_declined_ahead_of_silent_for_the_same_entry(self):
        # ann says no to one place and nothing to another one, whose last day it is.
        events = (("no", "ann", 0),)
        for silent, declined, left in (("out", "back", ["cid"]), ("back", "out", ["cid", "bob"]),
                                       ("back", "back", ["cid", "bob", "ann"]), ("keep", "back", ["bob", "cid", "ann"]),
                                       ("back", "keep", ["cid", "ann", "bob"])):
            waiting = come(House(2, 1, silent, declined), ABC, "flat", "flat").after(events)
            self.assertEqual(names(waiting), left, (silent, declined))

    def test_counts_as_asked_at_the_end_of_the_list(self):
        for word in ("keep", "back"):
            waiting = come(House(3, 1, word, word), ABC, "flat").after((("no", "bob", 0),))
            self.assertEqual(waiting.asked_next(), ())
            self.assertEqual(waiting.led(((), ())).places, ((0, "flat", ("ann", "bob", "cid"), ()),))

    def test_asked_in_the_order_of_asking(self):
        waiting = come(House(1, 1, "back"), ABC, "flat").led(((), ()))
        self.assertEqual(waiting.places, ((0, "flat", ("ann", "bob"), ()),))
        self.assertEqual(names(waiting), ["cid", "ann", "bob"])


class Led(Base):
    def test_no_days_and_no_events(self):
        waiting = come(House(2, 2), ABC, "flat")
        self.assertEqual(waiting.led(()), waiting)
        self.assertEqual(waiting.led(((),)), waiting.after(()))
        self.assertEqual(waiting.led(days=((),)), waiting.after(events=()))
        self.assertEqual(Waiting(KEEP, ()).led(((),) * 40).day, 41)

    def test_day_by_day(self):
        days = ((PLACE, PLACE), (("no", "ann", 0),), (), (("leave", "bob"), ("join", "eve", FLAT)), (("yes", "cid", 0),))
        waiting = later = Waiting(House(2, 3, "out", "back"), ABC)
        for at, events in enumerate(days):
            later = later.after(events)
            self.assertEqual(waiting.led(days[:at + 1]), later)
            self.assertEqual(seen(waiting.led(days[:at + 1])), seen(later))
            self.assertEqual(later.led(days[at + 1:]), waiting.led(days))
        self.assertEqual((waiting.day, later.day), (1, 6))

    def test_no_call_changes_the_list(self):
        waiting = come(House(2, 2, "out", "back"), ABC, "flat", "flat")
        before = seen(waiting)
        waiting.after((("no", "ann", 0), ("yes", "bob", 0), ("leave", "cid"), PLACE, ("join", "eve", FLAT)))
        waiting.led(((), (), (("leave", "cid"),)))
        waiting.standing("cid")
        self.assertEqual(seen(waiting), before)
        self.assertEqual(waiting, come(House(2, 2, "out", "back"), ABC, "flat", "flat"))


class Standings(Base):
    def test_by_wishes(self):
        entries = (("a", GARDEN), ("b", BOTH), ("c", FLAT), ("d", GARDEN), ("e", ("a", "b", "c")), ("f", ("tent",)))
        waiting = Waiting(KEEP, entries)
        self.assertEqual(waiting.standing("a"), ByWishes(GARDEN, ()))
        self.assertEqual(waiting.standing("c"), ByWishes(FLAT, ((GARDEN, 1), (BOTH, 1))))
        self.assertEqual(waiting.standing(name="f"),
                         ByWishes(("tent",), ((FLAT, 1), (GARDEN, 2), (BOTH, 1), (("a", "b", "c"), 1))))

    def test_behind_days(self):
        waiting = come(House(1, 1, "back"), ABC, "flat").after((("join", "eve", GARDEN),))
        self.assertEqual(waiting.standing("eve"), ByWishes(GARDEN, ((FLAT, 1), (BOTH, 1))))
        self.assertEqual(waiting.standing("ann"), ByWishes(FLAT, ((FLAT, 1), (GARDEN, 1), (BOTH, 1))))
        self.assertEqual(waiting.standing("bob"), ByWishes(BOTH, ()))

    def test_unknown(self):
        waiting = come(KEEP, ABC, "flat").after((("leave", "bob"),))
        for wrong in NO_NAMES + ("bob", "eve", "flat"):
            self.refused(UnknownName, wrong, waiting.standing, wrong)
            self.refused(UnknownName, wrong, waiting.standing, name=wrong)
        for wrong in ("ann", None):
            self.refused(UnknownName, wrong, Waiting(KEEP, ()).standing, wrong)

    def test_twelve_ahead_and_one_more(self):
        waiting = Waiting(KEEP, THIRTY)
        for at in range(13):
            rows = ((FLAT, at),) if at else ()
            self.assertEqual(waiting.standing(f"p{at:02}"), ByWishes(FLAT, rows))
        for at in range(13, 30):
            self.refused(TooManyAhead, at, waiting.standing, f"p{at:02}")
        self.refused(UnknownName, "p30", waiting.standing, "p30")


class Equal(Base):
    def test_each_part_counts(self):
        days = ((PLACE, PLACE), (("yes", "ann", 0), ("no", "bob", 1)))
        house = House(2, 3)
        waiting = Waiting(house, ABC).led(days)
        self.assertTrue(waiting == Waiting(House(2, 3), tuple(list(ABC))).led(days))
        self.assertFalse(waiting != Waiting(House(2, 3), tuple(list(ABC))).led(days))
        # What is gone does not count: the wishes of ann were others there.
        self.assertTrue(waiting == Waiting(house, (("ann", BOTH),) + ABC[1:]).led(days))
        for other in (
            Waiting(House(2, 3, "back"), ABC).led(days), Waiting(house, ABC + (("eve", GARDEN),)).led(days),
            Waiting(house, ABC[:2] + (("cid", BOTH),)).led(days),
            Waiting(house, ABC).led(days[:1] + (days[1] + (PLACE,),)), Waiting(house, ABC).led(days + ((),)),
            Waiting(house, ABC).led(((),) + days), Waiting(house, ABC).led(days[:1]),
            Waiting(house, ABC).led((days[0], (("yes", "ann", 1), ("no", "bob", 0)))),
            Waiting(house, (("fay", FLAT),) + ABC[1:]).led((days[0], (("yes", "fay", 0), ("no", "bob", 1)))),
        ):
            self.assertIs(waiting == other, False)
            self.assertIs(waiting != other, True)

    def test_given_alone(self):
        # The same entries, places and day, with another row of what was given.
        both = Waiting(House(2, 2), (("ann", FLAT), ("bob", FLAT))).after((PLACE, PLACE))
        one = both.after((("yes", "ann", 0), ("yes", "bob", 1)))
        other = both.after((("yes", "ann", 1), ("yes", "bob", 0)))
        self.assertEqual((one.entries, one.places, one.day), (other.entries, other.places, other.day))
        self.assertFalse(one == other)

    def test_itself_and_other_classes(self):
        waiting = Waiting(KEEP, ABC)
        self.assertTrue(waiting == waiting and not waiting != waiting)
        for value in OTHERS + (ABC, seen(waiting), repr(waiting), KEEP, ByWishes(FLAT, ())):
            self.assertIs(waiting == value, False)
            self.assertIs(waiting != value, True)

    def test_true(self):
        self.assertIs(bool(Waiting(KEEP, ())), True)
        self.assertIs(bool(Waiting(KEEP, ABC)), True)

    def test_repr_for_all_numbers(self):
        self.assertEqual(repr(Waiting(KEEP, ABC)), "Waiting of 3 entries on day 1")
        self.assertEqual(repr(Waiting(KEEP, ())), "Waiting of 0 entries on day 1")
        self.assertEqual(repr(Waiting(KEEP, ABC[:1]).led(((),) * 9)), "Waiting of 1 entries on day 10")
        self.assertEqual(repr(Waiting(KEEP, THIRTY).after((("leave", "p00"),))), "Waiting of 29 entries on day 2")


if __name__ == "__main__":
    unittest.main()
