"""Points [8] and [9]: lists against a second telling of the same rules, over many histories.

The model numbers each entry, so that a name that comes again is another entry by itself, and keeps each
offer for ever, so that nothing has to be forgotten.
"""

import random
import unittest

from offerlists.errors import InvalidEvents
from offerlists.houses import House
from offerlists.waiting import Waiting

NAMES = tuple("abcdefgh")
LOTS = (("x",), ("y",), ("x", "y"), ("x", "z"), ("x", "y", "z"))
WORDS = ("keep", "back", "out")


class Entry:
    def __init__(self, name, wishes):
        self.name, self.wishes = name, wishes


class Offer:
    def __init__(self, entry, number, last):
        self.entry, self.number, self.last = entry, number, last
        self.open, self.word = True, None


class Model:
    def __init__(self, house, entries):
        self.house, self.day = house, 1
        self.line = [Entry(*entry) for entry in entries]
        self.kinds, self.offers, self.given = [], [], []

    def entry(self, name):
        return next((entry for entry in self.line if entry.name == name), None)

    def open_offers(self, number=None):
        return [offer for offer in self.offers if offer.open and number in (None, offer.number)]

    def remaining(self):
        taken = [number for number, _, _ in self.given]
        return [number for number in range(len(self.kinds)) if number not in taken]

    def next_ones(self):
        pairs = []
        for number in self.remaining():
            if self.open_offers(number):
                continue
            before = [offer.entry for offer in self.offers if offer.number == number]
            free = [entry for entry in self.line if entry not in before and self.kinds[number] in entry.wishes]
            pairs += [(entry, number) for entry in free[:self.house.wave]]
        return pairs

    def morning(self):
        self.offers += [Offer(*pair, self.day + self.house.days - 1) for pair in self.next_ones()]

    def off(self, entry):
        self.line.remove(entry)
        for offer in self.offers:
            if offer.entry is entry:
                offer.open = False

    def event(self, event):
        """Whether an event can be; if so, it happens."""
        match event:
            case ("place", kind):
                self.kinds.append(kind)
            case ("join", name, wishes):
                if self.entry(name) or len(self.line) >= 30:
                    return False
                self.line.append(Entry(name, wishes))
            case ("leave", name):
                if not self.entry(name):
                    return False
                self.off(self.entry(name))
            case (word, name, number):
                mine = [offer for offer in self.open_offers(number) if offer.entry.name == name and not offer.word]
                if not mine:
                    return False
                mine[0].word = word
        return True

    def treat(self, word, entries):
        for entry in [entry for entry in self.line if entry in entries]:
            if word == "back":
                self.line.remove(entry)
                self.line.append(entry)
            if word == "out":
                self.off(entry)

    def evening(self):
        saying_no = [offer for offer in self.open_offers() if offer.word == "no"]
        for number in self.remaining():
            takers = [offer.entry for offer in self.open_offers(number) if offer.word == "yes"]
            first = next((entry for entry in self.line if entry in takers), None)
            if first:
                self.given.append((number, self.kinds[number], first.name))
                self.off(first)
                for offer in self.open_offers(number):
                    offer.open = False
        for offer in saying_no:
            offer.open = False
        self.treat(self.house.declined, [offer.entry for offer in saying_no])
        silent = [offer for offer in self.open_offers() if not offer.word and offer.last == self.day]
        for offer in silent:
            offer.open = False
        self.treat(self.house.silent, [offer.entry for offer in silent])
        self.day += 1

    def places(self):
        rows = []
        for number in self.remaining():
            offers = [offer for offer in self.offers if offer.number == number and offer.entry in self.line]
            rows.append((number, self.kinds[number], tuple([offer.entry.name for offer in offers]),
                         tuple([(offer.entry.name, offer.last) for offer in offers if offer.open])))
        return tuple(rows)

    def seen(self):
        entries = tuple([(entry.name, entry.wishes) for entry in self.line])
        asked = tuple([(entry.name, number) for entry, number in self.next_ones()])
        return (self.house, entries, self.places(), self.day, tuple(self.given), asked)


def seen(waiting):
    return (waiting.house, waiting.entries, waiting.places, waiting.day, waiting.given, waiting.asked_next())


def some_event(rng, model):
    """Any event, mostly one that can be."""
    chance = rng.random()
    if chance < 0.12:
        return ("place", rng.choice("xyz"))
    if chance < 0.25:
        return ("join", rng.choice(NAMES), rng.choice(LOTS))
    if chance < 0.33:
        return ("leave", rng.choice(NAMES))
    word = rng.choice(("yes", "no", "no"))
    if model.open_offers() and chance < 0.95:
        offer = rng.choice(model.open_offers())
        return (word, offer.entry.name, offer.number)
    return (word, rng.choice(NAMES), rng.randrange(max(len(model.kinds), 1)))


class Histories(unittest.TestCase):
    def one_day(self, rng, model, waiting):
        """Leads both through a day; events that cannot be are refused with their index, and left out."""
        model.morning()
        events = []
        for _ in range(rng.choice((0, 1, 2, 4, 8))):
            event = some_event(rng, model)
            if model.event(event):
                events.append(event)
                continue
            with self.assertRaises(InvalidEvents) as caught:
                waiting.after(tuple(events) + (event, ("place", "x"), None))
            self.assertEqual(caught.exception.index, len(events))
        model.evening()
        return tuple(events)

    def test_many(self):
        rng = random.Random(20)
        given = 0
        for _ in range(600):
            house = House(rng.randint(1, 3), rng.choice((1, 1, 2, 3, 9)), rng.choice(WORDS), rng.choice(WORDS))
            entries = tuple([(name, rng.choice(LOTS)) for name in rng.sample(NAMES, rng.randrange(7))])
            model, waiting = Model(house, entries), Waiting(house, entries)
            begin, days = waiting, []
            for _ in range(12):
                days.append(self.one_day(rng, model, waiting))
                waiting = waiting.after(days[-1])
                self.assertEqual(seen(waiting), model.seen())
            self.assertEqual(begin.led(tuple(days)), waiting)
            given += len(waiting.given)
        self.assertGreater(given, 600)


if __name__ == "__main__":
    unittest.main()
