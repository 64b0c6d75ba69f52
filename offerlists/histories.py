"""Histories in which an entry waits, although some places have come."""

from offerlists.checks import check_house
from offerlists.people import entries_with
from offerlists.standings import check_standing
from offerlists.sure import sure
from offerlists.waiting import Waiting


def waits(standing, house, places):
    """Entries and days that show that the standing is not sure of the places, None if it is."""
    check_standing(standing)
    check_house(house)
    # This looks at the places, too.
    if sure(standing, places):
        return None
    wished = [kind for kind, number in places if kind in standing.wishes for _ in range(number)]
    others = [kind for kind, number in places if kind not in standing.wishes for _ in range(number)]
    entries = entries_with(standing, wished)
    # Of the wished places one comes a day, so that the first one on the list can have it before the next.
    return (entries, eager_days(Waiting(house, entries), [[kind] for kind in wished] + [others]))


def eager_days(waiting, stock):
    """Days on which everybody who is asked says yes at once, until nobody is asked any more.

    The stock tells the kinds of the places that come on the first days.
    """
    days = []
    for kinds in stock:
        days.append(yes_to_all(waiting) + tuple([("place", kind) for kind in kinds]))
        waiting = waiting.after(days[-1])
    while waiting.asked_next():
        days.append(yes_to_all(waiting))
        waiting = waiting.after(days[-1])
    return tuple(days)


def yes_to_all(waiting):
    """The events by which everybody who is asked on the next morning says yes on that day."""
    return tuple([("yes", name, number) for name, number in waiting.asked_next()])
