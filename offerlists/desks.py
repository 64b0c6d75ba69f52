"""Desks: standings under names, and claims about them that hold after each change."""

from offerlists.basics import is_name, is_number
from offerlists.checks import MOST_CLAIMED_DAYS, check_house, is_places
from offerlists.comparing import parting
from offerlists.errors import (
    Broken, InUse, InvalidClaim, InvalidName, InvalidPlace, NothingToUndo, OtherWishes, UnknownName, Unwished,
)
from offerlists.histories import waits
from offerlists.standings import check_kind, check_standing
from offerlists.waydays import longest_way


class State:
    """What a desk holds between two changes. It never changes, so a desk can come back to it."""

    def __init__(self, rules, table, stated, before):
        self.rules = rules
        # The standings by their names.
        self.table = table
        # The claims in their order.
        self.stated = stated
        # The state ahead of the last change, None if there is none.
        self.before = before
        self.depth = 0 if before is None else before.depth + 1


class Trial:
    """What `trial` returns: a desk comes back to its state if the rows of the statement end with an exception."""

    def __init__(self, desk):
        self._desk = desk
        self._kept = None

    def __enter__(self):
        desk = self._desk
        self._kept = desk._state
        return desk

    def __exit__(self, kind, value, trace):
        desk = self._desk
        if kind is not None:
            desk._state = self._kept


class Desk:
    """Standings under names and a row of claims, in a house."""

    def __init__(self, house):
        check_house(house)
        self._state = State(house, {}, (), None)

    @property
    def house(self):
        """The house by whose rules places are offered."""
        return self._state.rules

    @property
    def names(self):
        """The names of the standings, ascending."""
        return tuple(sorted(list(self._state.table)))

    @property
    def claims(self):
        """The claims in their order."""
        return self._state.stated

    @property
    def changes(self):
        """How many changes can be taken back."""
        return self._state.depth

    def __getitem__(self, name):
        return standing_under(self._state, name)

    def __setitem__(self, name, standing):
        if not is_name(name):
            raise InvalidName(name)
        check_standing(standing)
        now = self._state
        self._state = holding(State(now.rules, {**now.table, name: standing}, now.stated, now))

    def __contains__(self, name):
        return is_name(name) and name in self._state.table

    def __len__(self):
        return len(self._state.table)

    def __bool__(self):
        # A desk is true also if it has no standings.
        return True

    def __iter__(self):
        raise TypeError("a desk is not iterated over, its names are")

    def remove(self, name):
        """Removes the standing under a name that no claim uses."""
        now = self._state
        standing_under(now, name)
        for index, claim in enumerate(now.stated):
            if name in names_in(claim):
                raise InUse(index)
        left = {other: now.table[other] for other in now.table if other != name}
        self._state = State(now.rules, left, now.stated, now)

    def change(self, house):
        """Changes the house."""
        check_house(house)
        now = self._state
        self._state = holding(State(house, now.table, now.stated, now))

    def claim(self, claim):
        """Adds a claim behind the others."""
        if not is_claim(claim):
            raise InvalidClaim(claim)
        now = self._state
        check_parts(now, claim)
        self._state = holding(State(now.rules, now.table, (*now.stated, claim), now))

    def lift(self, index):
        """Takes a claim away."""
        now = self._state
        if not is_number(index, 0, len(now.stated) - 1):
            raise InvalidPlace(index)
        self._state = State(now.rules, now.table, now.stated[:index] + now.stated[index + 1:], now)

    def undo(self):
        """Takes back the last change that has not been taken back."""
        before = self._state.before
        if before is None:
            raise NothingToUndo()
        self._state = before

    def trial(self):
        """For a `with` statement: if its rows end with an exception, the desk is as it was when they began."""
        return Trial(self)

    def tried(self, action):
        """What a function returns that is called with the desk within a trial."""
        with self.trial() as desk:
            return action(desk)


def standing_under(state, name):
    """The standing under a name."""
    if not is_name(name) or name not in state.table:
        raise UnknownName(name)
    return state.table[name]


def is_claim(value):
    """Whether a value is a claim, whatever its names are."""
    if not isinstance(value, tuple) or not value or not isinstance(value[0], str):
        return False
    form = (value[0], len(value))
    if form == ("sure", 3):
        return is_places(value[2])
    if form == ("within", 4):
        return is_name(value[2]) and is_number(value[3], 1, MOST_CLAIMED_DAYS)
    return form == ("never worse", 3)


def names_in(claim):
    """The names of standings in a claim."""
    return claim[1:3] if claim[0] == "never worse" else claim[1:2]


def check_parts(state, claim):
    """Raises an error if a claim cannot be asked of what the desk has."""
    standings = [standing_under(state, name) for name in names_in(claim)]
    if claim[0] == "within":
        check_kind(standings[0], claim[2])
    if claim[0] == "never worse" and standings[0].wishes != standings[1].wishes:
        raise OtherWishes()


def holding(state):
    """The state itself; raises Broken with the first of its claims that does not hold."""
    for index, claim in enumerate(state.stated):
        holds, shown = asked(state, claim)
        if not holds:
            raise Broken(index, shown)
    return state


def asked(state, claim):
    """Whether a claim holds, and what shows that it does not."""
    one = state.table[claim[1]]
    if claim[0] == "sure":
        shown = waits(one, state.rules, claim[2])
        return (shown is None, shown)
    if claim[0] == "never worse":
        other = state.table[claim[2]]
        if one.wishes != other.wishes:
            return (False, None)
        shown = parting(one, other)
        return (shown is None, shown)
    if claim[2] not in one.wishes:
        return (False, None)
    days = longest_way(one, state.rules, claim[2])
    return (days <= claim[3], days)
