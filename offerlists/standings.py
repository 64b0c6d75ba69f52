"""Standings: what an entry wishes, and what is known of those ahead of it."""

from offerlists.errors import InvalidLot, InvalidNumber, InvalidRows, InvalidText, NotAStanding, Unwished
from offerlists.limits import MOST_AHEAD, MOST_KINDS
from offerlists.basics import is_lot, is_name, is_number, is_pair, lot_order, read_number, wrong_pair
from offerlists.checks import check_lot

NOT_MADE = "only the classes under this one are made"


class Standing:
    """What all standings have; only the classes under it are made.

    Each of these defines by itself whatever the interface lists for it.
    """

    @property
    def wishes(self):
        """The lot of the kinds that the entry wishes."""
        return self._wishes

    @property
    def ahead(self):
        """How many are ahead."""
        return self._ahead

    def bar(self, lot):
        """How many ahead, at most, wish one of these kinds of the wishes."""
        raise NotImplementedError(NOT_MADE)

    def weaker(self):
        """The same standing with less known of those ahead."""
        raise NotImplementedError(NOT_MADE)


class ByWishes(Standing):
    """A standing that tells how many ahead have which lot as their wishes."""

    def __init__(self, wishes, rows):
        check_lot(wishes)
        check_lot_rows(rows)
        self._wishes = wishes
        self._rows = rows
        self._ahead = sum([number for _, number in rows])

    @property
    def wishes(self):
        """The lot of the kinds that the entry wishes."""
        return self._wishes

    @property
    def ahead(self):
        """How many are ahead."""
        return self._ahead

    @property
    def rows(self):
        """The pairs of a lot and how many ahead have it as their wishes."""
        return self._rows

    def bar(self, lot):
        """How many ahead wish one of these kinds of the wishes."""
        check_wished(lot, self._wishes)
        return many_wishing(self._rows, lot)

    def weaker(self):
        """The standing by kinds of the same people."""
        kinds = sorted(set([kind for lot, _ in self._rows for kind in lot]))
        rows = [(kind, many_wishing(self._rows, (kind,))) for kind in kinds]
        return ByKinds(self._wishes, self._ahead, tuple(rows))

    def __eq__(self, other):
        return isinstance(other, ByWishes) and self._wishes == other._wishes and self._rows == other._rows

    def __str__(self):
        return "\n".join([wishes_line(self._wishes)] + [lot_line(lot, number) for lot, number in self._rows])

    def __repr__(self):
        return f"Standing by wishes with {self._ahead} ahead"


class ByKinds(Standing):
    """A standing that tells how many are ahead and how many of them wish which kind."""

    def __init__(self, wishes, many, rows):
        check_lot(wishes)
        check_many(many)
        check_kind_rows(many, rows)
        self._wishes = wishes
        self._ahead = many
        self._rows = rows

    @property
    def wishes(self):
        """The lot of the kinds that the entry wishes."""
        return self._wishes

    @property
    def ahead(self):
        """How many are ahead."""
        return self._ahead

    @property
    def rows(self):
        """The pairs of a kind and how many ahead wish it."""
        return self._rows

    def bar(self, lot):
        """How many ahead, at most, wish one of these kinds of the wishes."""
        check_wished(lot, self._wishes)
        return min(self._ahead, sum([number for kind, number in self._rows if kind in lot]))

    def weaker(self):
        """The standing by number of the same people."""
        return ByNumber(self._wishes, self._ahead)

    def __eq__(self, other):
        return (isinstance(other, ByKinds) and self._wishes == other._wishes and self._ahead == other._ahead
                and self._rows == other._rows)

    def __str__(self):
        return "\n".join([wishes_line(self._wishes)] + kinds_lines(self._ahead, self._rows))

    def __repr__(self):
        return f"Standing by kinds with {self._ahead} ahead"


class ByNumber(Standing):
    """A standing that tells nothing but how many are ahead."""

    def __init__(self, wishes, many):
        check_lot(wishes)
        check_many(many)
        self._wishes = wishes
        self._ahead = many

    @property
    def wishes(self):
        """The lot of the kinds that the entry wishes."""
        return self._wishes

    @property
    def ahead(self):
        """How many are ahead."""
        return self._ahead

    def bar(self, lot):
        """How many ahead, at most, wish one of these kinds of the wishes: all of them."""
        check_wished(lot, self._wishes)
        return self._ahead

    def weaker(self):
        """This standing itself, for less cannot be known."""
        return self

    def __eq__(self, other):
        return isinstance(other, ByNumber) and self._wishes == other._wishes and self._ahead == other._ahead

    def __str__(self):
        return "\n".join([wishes_line(self._wishes), number_line(self._ahead)])

    def __repr__(self):
        return f"Standing by number with {self._ahead} ahead"


def read_standing(text):
    """The standing with this text."""
    standing = None
    if isinstance(text, str):
        standing = likely_standing(text.split("\n"))
    if standing is None or str(standing) != text:
        raise InvalidText(text)
    return standing


def likely_standing(lines):
    """The standing with these lines if there is one, otherwise None or perhaps another one."""
    wishes = tuple(lines[0].split(" ")[1:])
    try:
        if len(lines) == 1 or ":" in lines[1]:
            return ByWishes(wishes, tuple([read_lot_row(line) for line in lines[1:]]))
        many = read_many(lines[1])
        if len(lines) == 2 and not lines[1].endswith(" by kinds"):
            return ByNumber(wishes, many)
        return ByKinds(wishes, many, tuple([read_kind_row(line) for line in lines[2:]]))
    except (InvalidLot, InvalidNumber, InvalidRows):
        return None


def read_many(line):
    """The number in a line like `ahead 3 people`, None if there is none."""
    word = line.removeprefix("ahead ").removesuffix(" by kinds").removesuffix(" people")
    return read_number(word, 0, MOST_AHEAD)


def read_lot_row(line):
    """The pair in a line like `ahead 2: flat garden`, with None if there is no number."""
    head, _, kinds = line.partition(": ")
    return (tuple(kinds.split(" ")), read_number(head.removeprefix("ahead "), 1, MOST_AHEAD))


def read_kind_row(line):
    """The pair in a line like `wish 2: flat`, with None if there is no number."""
    head, _, kind = line.partition(": ")
    return (kind, read_number(head.removeprefix("wish "), 1, MOST_AHEAD))


def wishes_line(wishes):
    """The first line of the text of a standing with these wishes."""
    return "wishes " + " ".join(wishes)


def number_line(many):
    """The line that tells how many are ahead."""
    return f"ahead {many} people"


def lot_line(lot, number):
    """The line that tells how many ahead have a lot as their wishes."""
    return f"ahead {number}: {' '.join(lot)}"


def kinds_lines(many, rows):
    """The lines that tell how many are ahead and what they wish by kinds."""
    if not rows:
        # Nobody is ahead, and only the last words tell this from the same by number.
        return [number_line(many) + " by kinds"]
    return [number_line(many)] + [f"wish {number}: {kind}" for kind, number in rows]


def many_wishing(rows, lot):
    """How many people of rows by wishes wish one of these kinds."""
    return sum([number for other, number in rows if any([kind in lot for kind in other])])


def check_standing(standing):
    """Raises NotAStanding if this is no standing."""
    if not isinstance(standing, Standing):
        raise NotAStanding(standing)


def check_kind(standing, kind):
    """Raises Unwished if this is no kind of the wishes of the standing."""
    if not is_name(kind) or kind not in standing.wishes:
        raise Unwished(kind)


def check_wished(lot, wishes):
    """Raises InvalidLot if this is no lot of kinds of the wishes."""
    check_lot(lot)
    if not all([kind in wishes for kind in lot]):
        raise InvalidLot(lot)


def check_many(many):
    """Raises InvalidNumber if so many cannot be ahead."""
    if not is_number(many, 0, MOST_AHEAD):
        raise InvalidNumber(many)


def check_lot_rows(rows):
    """Raises InvalidRows if these are no rows of a standing by wishes."""
    if not isinstance(rows, tuple):
        raise InvalidRows(None)
    ahead = 0
    for at, row in enumerate(rows):
        if not is_pair(row) or not is_lot(row[0]) or not is_number(row[1], 1, MOST_AHEAD):
            raise InvalidRows(at)
        if at > 0 and lot_order(row[0]) <= lot_order(rows[at - 1][0]):
            raise InvalidRows(at)
        ahead += row[1]
        if ahead > MOST_AHEAD:
            raise InvalidRows(at)


def check_kind_rows(many, rows):
    """Raises InvalidRows if these are no rows of a standing by kinds with so many ahead."""
    if not isinstance(rows, tuple):
        raise InvalidRows(None)
    wrong = wrong_pair(rows, many)
    if wrong is not None:
        raise InvalidRows(wrong)
    # Each of those ahead wishes one kind at least, and no more than a lot can hold.
    if not many <= sum([number for _, number in rows]) <= MOST_KINDS * many:
        raise InvalidRows(None)
