"""Waiting lists that are led day by day."""

from offerlists.errors import InvalidEntries, InvalidEvents, TooManyAhead, UnknownName
from offerlists.limits import MOST_AHEAD, MOST_ENTRIES
from offerlists.basics import is_lot, is_name, is_pair, lot_order
from offerlists.checks import check_house
from offerlists.days import Day, evening, happen, morning
from offerlists.standings import ByWishes


class Waiting:
    """A list between two days. No call changes it: the days behind it are lists of their own."""

    def __init__(self, house, entries):
        check_house(house)
        check_entries(entries)
        self._house = house
        self._entries = entries
        self._places = ()
        self._day = 1
        # No property, for the errors have an attribute of this name.
        self.given = ()

    @property
    def house(self):
        """The house by whose rules places are offered."""
        return self._house

    @property
    def entries(self):
        """The pairs of a name and its wishes, in the order of the list."""
        return self._entries

    @property
    def places(self):
        """What has not been given: tuples of number, kind, who was asked, and the open offers."""
        return self._places

    @property
    def day(self):
        """The number of the day that comes next."""
        return self._day

    def asked_next(self):
        """The pairs of a name and the number of a place that are asked on the next morning."""
        return tuple(morning(day_of(self)))

    def after(self, events):
        """The list behind one day with these events."""
        if not isinstance(events, tuple):
            raise InvalidEvents(None)
        today = day_of(self)
        morning(today)
        for at, event in enumerate(events):
            if not happen(today, event):
                raise InvalidEvents(at)
        evening(today)
        return list_behind(today)

    def led(self, days):
        """The list behind these days, each a tuple of events."""
        if not isinstance(days, tuple):
            raise InvalidEvents(None)
        waiting = self
        for at, events in enumerate(days):
            try:
                waiting = waiting.after(events)
            except InvalidEvents:
                raise InvalidEvents(at) from None
        return waiting

    def standing(self, name):
        """The standing by wishes of an entry."""
        names = [entry[0] for entry in self._entries]
        if not is_name(name) or name not in names:
            raise UnknownName(name)
        ahead = names.index(name)
        if ahead > MOST_AHEAD:
            raise TooManyAhead(ahead)
        return ByWishes(self._entries[ahead][1], lot_rows(self._entries[:ahead]))

    def __eq__(self, other):
        return (isinstance(other, Waiting) and self._house == other._house and self._entries == other._entries
                and self._places == other._places and self._day == other._day and self.given == other.given)

    def __repr__(self):
        return f"Waiting of {len(self._entries)} entries on day {self._day}"


def check_entries(entries):
    """Raises InvalidEntries if a list cannot begin with these entries."""
    if not isinstance(entries, tuple):
        raise InvalidEntries(None)
    names = []
    for at, entry in enumerate(entries):
        if at == MOST_ENTRIES or not is_pair(entry) or not is_name(entry[0]) or not is_lot(entry[1]):
            raise InvalidEntries(at)
        if entry[0] in names:
            raise InvalidEntries(at)
        names.append(entry[0])


def day_of(waiting):
    """The day that comes next, before its morning."""
    return Day(waiting.house, waiting.day, waiting.entries, waiting.places, waiting.given)


def list_behind(today):
    """The list behind a day, after its evening."""
    waiting = Waiting(today.rules, tuple(today.people.items()))
    waiting._places = tuple([
        (place.number, place.kind, tuple(place.asked), tuple(place.last_days.items())) for place in today.stock
    ])
    waiting._day = today.number + 1
    waiting.given = tuple(today.handed)
    return waiting


def lot_rows(entries):
    """How many of these entries have which lot as their wishes, as rows of a standing by wishes."""
    numbers = {}
    for _, wishes in entries:
        numbers[wishes] = numbers.get(wishes, 0) + 1
    return tuple([(lot, numbers[lot]) for lot in sorted(list(numbers), key=lot_order)])
