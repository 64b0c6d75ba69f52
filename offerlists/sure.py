"""After which places a standing is sure of one."""

from offerlists.basics import lots_of
from offerlists.checks import check_lot, check_places, check_promises
from offerlists.standings import check_standing


def sure(standing, places):
    """Whether the standing is sure of the places."""
    return reason(standing, places) is not None


def reason(standing, places):
    """The first lot of kinds of the wishes whose places are more than its bar, None if there is none."""
    check_standing(standing)
    check_places(places)
    return first_passing(bars_of(standing), dict(places))


def least_places(standing):
    """All least places of the standing, those of fewer kinds ahead."""
    check_standing(standing)
    bars = bars_of(standing)
    found = []
    for lot, bar in bars:
        # Places of just these kinds: one more than the bar is enough, and one less must not be.
        for numbers in shares(bar + 1, len(lot)):
            places = dict(zip(lot, numbers))
            if all([first_passing(bars, one_less(places, kind)) is None for kind in lot]):
                found.append(tuple(places.items()))
    return tuple(sorted(found, key=lambda least: (len(least), least)))


def fewest(standing, lot):
    """The least number of places of these kinds that can make sure, None if none of the kinds is wished."""
    check_standing(standing)
    check_lot(lot)
    # No bar of a lot is less than that of one of its kinds, so places of one kind are the fewest.
    bars = [standing.bar((kind,)) for kind in lot if kind in standing.wishes]
    if not bars:
        return None
    return min(bars) + 1


def enough(standing, lot):
    """The least number such that any so many places of these kinds make sure, None if one is not wished."""
    check_standing(standing)
    check_lot(lot)
    if not all([kind in standing.wishes for kind in lot]):
        return None
    # As many as the bar can all go to people ahead, spread over the kinds as these wish them.
    return standing.bar(lot) + 1


def sure_day(standing, promises):
    """The least day by which the standing is sure of what has come by these promises, None if there is none."""
    check_standing(standing)
    check_promises(promises)
    bars = bars_of(standing)
    # By then, a kind alone makes sure.
    latest = [(standing.bar((kind,)) + 1) * days for kind, days in promises if kind in standing.wishes]
    for day in range(1, min(latest, default=0) + 1):
        if first_passing(bars, {kind: day // days for kind, days in promises}) is not None:
            return day
    return None


def bars_of(standing):
    """The pairs of a lot of kinds of the wishes and its bar, in the order of lots."""
    return [(lot, standing.bar(lot)) for lot in lots_of(standing.wishes)]


def first_passing(bars, numbers):
    """The first of these lots with more places than its bar, by their numbers for each kind, or None."""
    for lot, bar in bars:
        if sum([numbers.get(kind, 0) for kind in lot]) > bar:
            return lot
    return None


def shares(total, many):
    """All tuples of so many integers from 1 on with this sum."""
    if many == 1:
        return [(total,)]
    return [(first, *rest) for first in range(1, total) for rest in shares(total - first, many - 1)]


def one_less(places, kind):
    """The numbers of places for each kind, one of this kind less."""
    return {other: places[other] - 1 if other == kind else places[other] for other in places}
