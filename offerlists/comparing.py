"""Which of two standings with the same wishes is better."""

from offerlists.basics import lots_of
from offerlists.errors import OtherWishes
from offerlists.standings import check_standing


def never_worse(one, other):
    """Whether one standing is sure of all places of which the other one is."""
    return parting(one, other) is None


def alike(one, other):
    """Whether two standings are sure of the same places."""
    return never_worse(one, other) and never_worse(other, one)


def parting(one, other):
    """Places of which the other one is sure and the one is not, None if there are none."""
    check_two(one, other)
    for lot in lots_of(one.wishes):
        if one.bar(lot) > other.bar(lot):
            return filling(one, lot)
    return None


def filling(standing, lot):
    """Places of the kinds of this lot that pass no bar of the standing, as many as the bar of the lot.

    The lot is the first one by which another standing is better.
    """
    # Each kind gets as many as it adds to the bar of those before it. To fewer kinds a kind adds no less,
    # so no other lot is passed; and if one added nothing, the lot without it would have been found ahead.
    bars = [0] + [standing.bar(lot[:many]) for many in range(1, len(lot) + 1)]
    return tuple([(kind, bars[at + 1] - bars[at]) for at, kind in enumerate(lot)])


def check_two(one, other):
    """Raises NotAStanding if one of these is no standing, OtherWishes if their wishes are not the same."""
    check_standing(one)
    check_standing(other)
    if one.wishes != other.wishes:
        raise OtherWishes()
