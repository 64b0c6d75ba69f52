"""How many days a place can be on its way to an entry."""

from offerlists.basics import is_number
from offerlists.checks import check_house
from offerlists.errors import InvalidNumber
from offerlists.people import entries_with
from offerlists.standings import check_kind, check_standing

MOST_LATE = 20


def longest_way(standing, house, kind):
    """The greatest number of days from the first morning of a place of this kind to the one on which it is offered."""
    check_standing(standing)
    check_house(house)
    check_kind(standing, kind)
    # Each full wave of people ahead can keep silent for all the days of an offer.
    return standing.bar((kind,)) // house.wave * house.days


def way(standing, house, kind):
    """Entries and days that show the longest way: the entry is asked on the morning of the last day."""
    longest = longest_way(standing, house, kind)
    entries = entries_with(standing, [kind] * standing.bar((kind,)))
    # Behind the day of the place stands that of its first morning, and then so many more.
    return (entries, ((("place", kind),),) + ((),) * (longest + 1))


def passed_by(house, late):
    """How many who came behind an entry can be given a place before it that it wishes, None if there is no end.

    The entry says yes so many days behind the day of asking.
    """
    check_house(house)
    if not is_number(late, 0, MOST_LATE):
        raise InvalidNumber(late)
    # Who says yes at once, or is asked alone and answers in time, is ahead of those behind for each place.
    # Otherwise others can always be faster, or the offer runs out.
    if late == 0 or (house.wave == 1 and late < house.days):
        return 0
    return None
