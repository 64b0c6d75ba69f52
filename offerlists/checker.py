"""A small checker of claims and their certificates, whoever wrote them."""

from offerlists.basics import is_integer, is_lot, is_name, is_pair, lots_of
from offerlists.checks import is_places
from offerlists.errors import InvalidEntries, InvalidEvents, InvalidLot, InvalidText, TooManyAhead
from offerlists.houses import House
from offerlists.standings import read_standing
from offerlists.waiting import Waiting

# What stands behind the word of a claim.
FORMS = {
    "sure": ("standing", "places"),
    "waits": ("standing", "house", "places"),
    "never worse": ("standing", "standing"),
    "worse": ("standing", "standing"),
    "longer": ("standing", "house", "kind", "number"),
}


def read_claim(claim):
    """What stands behind the word of a claim, with its texts read; None if it is no claim for the checker."""
    if not isinstance(claim, tuple) or not claim or not isinstance(claim[0], str) or claim[0] not in FORMS:
        return None
    form = FORMS[claim[0]]
    if len(claim) != len(form) + 1:
        return None
    parts = [read_part(sort, part) for sort, part in zip(form, claim[1:])]
    if any([part is None for part in parts]):
        return None
    if form == ("standing", "standing") and parts[0].wishes != parts[1].wishes:
        return None
    if "kind" in form and parts[2] not in parts[0].wishes:
        return None
    return parts


def read_part(sort, part):
    """A part of a claim, read if it is a text; None if it is none of this sort."""
    if sort in ("standing", "house"):
        try:
            return read_standing(part) if sort == "standing" else House.read(part)
        except InvalidText:
            return None
    if sort == "places":
        return part if is_places(part) else None
    if sort == "kind":
        return part if is_name(part) else None
    return part if is_integer(part) and part >= 0 else None


def shows_sure(parts, certificate):
    """Whether the certificate is a lot whose places are more than its bar."""
    standing, places = parts
    try:
        bar = standing.bar(certificate)
    except InvalidLot:
        return False
    return sum([number for kind, number in places if kind in certificate]) > bar


def shows_waits(parts, certificate):
    """Whether the certificate tells a history in which a prompt entry waits with just these places."""
    standing, house, places = parts
    lists = lists_led(standing, house, certificate)
    if lists is None:
        return False
    name = lists[0].entries[-1][0]
    for at, events in enumerate(certificate[1]):
        if not is_prompt(name, lists[at].asked_next(), events) or not is_on(name, lists[at + 1]):
            return False
    told = [kind for kind, number in places for _ in range(number)]
    return kinds_that_came(lists[-1]) == told and is_settled(lists[-1])


def shows_never_worse(parts, certificate):
    """Whether the certificate tells all bars of both standings, and none of the first is greater."""
    one, other = parts
    if not isinstance(certificate, tuple) or not all([is_row(row) for row in certificate]):
        return False
    if certificate != tuple([(lot, one.bar(lot), other.bar(lot)) for lot in lots_of(one.wishes)]):
        return False
    return all([row[1] <= row[2] for row in certificate])


def shows_worse(parts, certificate):
    """Whether the certificate tells places of which the other standing is sure, and with which the one waits."""
    one, other = parts
    if not isinstance(certificate, tuple) or len(certificate) != 3 or not is_places(certificate[0]):
        return False
    places, lot, history = certificate
    return shows_sure((other, places), lot) and shows_waits((one, House(1, 1), places), history)


def shows_longer(parts, certificate):
    """Whether the certificate tells a history in which the entry is asked for the one place later than claimed."""
    standing, house, kind, number = parts
    lists = lists_led(standing, house, certificate)
    if lists is None:
        return False
    days = certificate[1]
    if days[:1] != ((("place", kind),),) or kinds_that_came(lists[-1]) != [kind]:
        return False
    name = lists[0].entries[-1][0]
    for at, events in enumerate(days):
        if name in [other for other, _ in lists[at].asked_next()]:
            # The first morning of the place is that of the second day, which has the index 1.
            return at - 1 > number
        if ("leave", name) in events:
            return False
    return False


def lists_led(standing, house, certificate):
    """The lists ahead of each of the days that a certificate tells, and behind them all.

    None if it tells of no list that can be led so, or one whose first entries do not fit the standing.
    """
    if not is_pair(certificate) or not isinstance(certificate[1], tuple):
        return None
    try:
        lists = [Waiting(house, certificate[0])]
        for events in certificate[1]:
            lists.append(lists[-1].after(events))
    except (InvalidEntries, InvalidEvents):
        return None
    return lists if last_fits(lists[0], standing) else None


def last_fits(waiting, standing):
    """Whether the last entry has the wishes of a standing, and those ahead fit it."""
    if not waiting.entries:
        return False
    try:
        known = waiting.standing(waiting.entries[-1][0])
    except TooManyAhead:
        return False
    # Whoever fits a standing by kinds or by number has it once as much less is known.
    return standing in (known, known.weaker(), known.weaker().weaker())


def is_prompt(name, asked, events):
    """Whether an entry says yes on this day to all for which it is asked, and does not leave."""
    return ("leave", name) not in events and all(
        [("yes", name, number) in events for other, number in asked if other == name]
    )


def is_on(name, waiting):
    """Whether an entry is on a list."""
    return name in [entry[0] for entry in waiting.entries]


def kinds_that_came(waiting):
    """The kinds of all places that have come, ascending."""
    return sorted([place[1] for place in waiting.places] + [place[1] for place in waiting.given])


def is_settled(waiting):
    """Whether everybody on a list has been asked for each place left that they wish."""
    return all([
        name in place[2] for place in waiting.places for name, wishes in waiting.entries if place[1] in wishes
    ])


def is_row(value):
    """Whether a value is a triple of a lot and two integers."""
    return (isinstance(value, tuple) and len(value) == 3 and is_lot(value[0]) and is_integer(value[1])
            and is_integer(value[2]))


SHOWS = {
    "sure": shows_sure,
    "waits": shows_waits,
    "never worse": shows_never_worse,
    "worse": shows_worse,
    "longer": shows_longer,
}


def accepts(claim, certificate):
    """Whether this is a claim for the checker with a certificate for it."""
    parts = read_claim(claim)
    if parts is None:
        return False
    shows = SHOWS[claim[0]]
    return shows(parts, certificate)
