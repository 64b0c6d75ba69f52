"""Certificates by which the checker accepts claims."""

from offerlists.basics import is_number, lots_of
from offerlists.checks import MOST_CLAIMED_DAYS
from offerlists.comparing import parting
from offerlists.errors import InvalidNumber
from offerlists.histories import waits
from offerlists.houses import House
from offerlists.sure import reason
from offerlists.waydays import longest_way, way


def certify_sure(standing, places):
    """That the standing is sure of the places."""
    lot = reason(standing, places)
    if lot is None:
        return None
    return (("sure", str(standing), places), lot)


def certify_waits(standing, house, places):
    """That the standing is not sure of the places."""
    history = waits(standing, house, places)
    if history is None:
        return None
    return (("waits", str(standing), str(house), places), history)


def certify_never_worse(one, other):
    """That one standing is never worse than the other one."""
    if parting(one, other) is not None:
        return None
    rows = [(lot, one.bar(lot), other.bar(lot)) for lot in lots_of(one.wishes)]
    return (("never worse", str(one), str(other)), tuple(rows))


def certify_worse(one, other):
    """That one standing is sometimes worse than the other one."""
    places = parting(one, other)
    if places is None:
        return None
    # The house of the plainest history, in which the checker leads it.
    history = waits(one, House(1, 1), places)
    return (("worse", str(one), str(other)), (places, reason(other, places), history))


def certify_longer(standing, house, kind, days):
    """That a place of this kind can be on its way for more than so many days."""
    longest = longest_way(standing, house, kind)
    if not is_number(days, 0, MOST_CLAIMED_DAYS):
        raise InvalidNumber(days)
    if longest <= days:
        return None
    return (("longer", str(standing), str(house), kind, days), way(standing, house, kind))
