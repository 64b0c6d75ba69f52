"""What counts as an integer, a pair, a name or a lot, in whatever is passed."""

from offerlists.limits import MOST_KINDS

MOST_CHARACTERS = 8
LETTERS = "abcdefghijklmnopqrstuvwxyz"
LETTERS_AND_DIGITS = "abcdefghijklmnopqrstuvwxyz0123456789"


def is_integer(value):
    """Whether a value is an integer."""
    # True and False are of the class int for Python, but no integers here.
    return isinstance(value, int) and not isinstance(value, bool)


def is_number(value, least, most):
    """Whether a value is an integer from least to most."""
    return is_integer(value) and least <= value <= most


def is_pair(value):
    """Whether a value is a tuple of two elements."""
    return isinstance(value, tuple) and len(value) == 2


def is_name(value):
    """Whether a value is a name, which each kind is, too."""
    if not isinstance(value, str) or not 1 <= len(value) <= MOST_CHARACTERS:
        return False
    return value[0] in LETTERS and all([sign in LETTERS_AND_DIGITS for sign in value])


def is_lot(value):
    """Whether a value is a lot: one to four different kinds, ascending."""
    if not isinstance(value, tuple) or not 1 <= len(value) <= MOST_KINDS:
        return False
    # Only names can be compared, so each is looked at before it is compared.
    if not all([is_name(kind) for kind in value]):
        return False
    return all([value[at - 1] < value[at] for at in range(1, len(value))])


def lot_order(lot):
    """What lots are sorted by: a shorter lot stands ahead of a longer one."""
    return (len(lot), lot)


def lots_of(kinds):
    """All lots of these kinds, which are ascending, in the order of lots."""
    lots = [()]
    for kind in kinds:
        lots = lots + [(*lot, kind) for lot in lots]
    # The empty tuple, which they grow from, is no lot.
    return sorted(lots[1:], key=lot_order)


def wrong_pair(pairs, most):
    """The index of the first element that is not right where it stands, None if all are.

    Right are pairs of a name, greater than the one before, and an integer from 1 to most.
    """
    for at, pair in enumerate(pairs):
        if not is_pair(pair) or not is_name(pair[0]) or not is_number(pair[1], 1, most):
            return at
        if at > 0 and pair[0] <= pairs[at - 1][0]:
            return at
    return None


def read_number(word, least, most):
    """The integer from least to most that is written as this word, or None."""
    # int() would also take signs, blanks, underscores and leading zeros.
    for number in range(least, most + 1):
        if str(number) == word:
            return number
    return None
