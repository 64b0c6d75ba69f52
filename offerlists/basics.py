"""What counts as an integer, a name or a lot, in whatever is passed."""

from offerlists.limits import MOST_KINDS

MOST_CHARACTERS = 8
LETTERS = "abcdefghijklmnopqrstuvwxyz"
LETTERS_AND_DIGITS = "abcdefghijklmnopqrstuvwxyz0123456789"


def is_number(value, least, most):
    """Whether a value is an integer from least to most."""
    # True and False are of the class int for Python, but no integers here.
    if isinstance(value, bool) or not isinstance(value, int):
        return False
    return least <= value <= most


def is_name(value):
    """Whether a value is a name, which each kind is, too."""
    if not isinstance(value, str) or not 1 <= len(value) <= MOST_CHARACTERS:
        return False
    return value[0] in LETTERS and all([sign in LETTERS_AND_DIGITS for sign in value])


def is_lot(value):
    """Whether a value is a lot: one to four different kinds, ascending."""
    if not isinstance(value, tuple) or not 1 <= len(value) <= MOST_KINDS:
        return False
    # Only names can be compared, so each is looked at before it is compared.
    if not all([is_name(kind) for kind in value]):
        return False
    return all([value[at - 1] < value[at] for at in range(1, len(value))])


def lot_order(lot):
    """What lots are sorted by: a shorter lot stands ahead of a longer one."""
    return (len(lot), lot)


def read_number(word, least, most):
    """The integer from least to most that is written as this word, or None."""
    # int() would also take signs, blanks, underscores and leading zeros.
    for number in range(least, most + 1):
        if str(number) == word:
            return number
    return None
