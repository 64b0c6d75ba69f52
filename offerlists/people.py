"""People ahead who fit a standing, such that each of some places can go to another one of them."""

from offerlists.standings import ByKinds, ByWishes

OWN_NAME = "me"


def entries_with(standing, kinds):
    """Entries of a list: people who fit the standing, and behind them one with its wishes.

    The first people wish these kinds, one of them each, in this order. The kinds are some of the
    wishes, each perhaps several times, and so few of each lot that they do not pass its bar.
    """
    lots = lots_with(standing, kinds)
    return tuple([(f"p{at}", lot) for at, lot in enumerate(lots, start=1)] + [(OWN_NAME, standing.wishes)])


def lots_with(standing, kinds):
    """The wishes of the people of entries_with."""
    if isinstance(standing, ByWishes):
        return lots_by_wishes(standing.rows, kinds)
    if isinstance(standing, ByKinds):
        return lots_by_kinds(standing.ahead, standing.rows, kinds)
    # By number, people may wish whatever they like.
    return [(kind,) for kind in kinds] + [standing.wishes] * (standing.ahead - len(kinds))


def lots_by_wishes(rows, kinds):
    """The lots of these rows, those that are matched with the kinds first."""
    lots = [lot for lot, number in rows for _ in range(number)]
    # What each lot is matched with: the index of a kind by the index of the lot.
    matched = {}
    for at in range(len(kinds)):
        match_kind(at, kinds, lots, matched, [])
    order = sorted(range(len(lots)), key=lambda who: matched.get(who, len(kinds)))
    return [lots[who] for who in order]


def match_kind(at, kinds, lots, matched, tried):
    """Matches a kind with a lot in which it is, and others anew if needed; whether this can be."""
    for who, lot in enumerate(lots):
        if kinds[at] in lot and who not in tried:
            tried.append(who)
            if who not in matched or match_kind(matched[who], kinds, lots, matched, tried):
                matched[who] = at
                return True
    return False


def lots_by_kinds(many, rows, kinds):
    """So many lots in which each kind is as often as these rows tell, the first ones with the kinds."""
    held = [[kind] for kind in kinds] + [[] for _ in range(many - len(kinds))]
    for kind, number in rows:
        without = [lot for lot in held if kind not in lot]
        for lot in without[:number - kinds.count(kind)]:
            lot.append(kind)
    even_out(held)
    return [tuple(sorted(lot)) for lot in held]


def even_out(held):
    """Moves kinds between lots, not the first of a lot, until no lot is longer than another one by two.

    As the kinds are as many as the lots at least, and four times as many at most, no lot is
    then empty, and none is longer than four.
    """
    while held:
        longest = max(held, key=len)
        shortest = min(held, key=len)
        if len(longest) - len(shortest) < 2:
            return
        # A lot that is longer by two has two kinds more, and only one of them can be its first.
        moved = [kind for kind in longest[1:] if kind not in shortest][0]
        longest.remove(moved)
        shortest.append(moved)
