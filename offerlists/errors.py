"""The errors: values that are not right, what is not there, and what cannot be.

Each class sets its own attributes, for it may stand under no other class than the one listed.
"""


class NotRight(ValueError):
    """A value is not right."""


class InvalidName(NotRight):
    """The value is no name."""

    def __init__(self, given):
        self.given = given


class InvalidWave(NotRight):
    """The value is no wave of a house."""

    def __init__(self, given):
        self.given = given


class InvalidDays(NotRight):
    """The value is no number of days of a house."""

    def __init__(self, given):
        self.given = given


class InvalidWord(NotRight):
    """The value is none of the words of houses."""

    def __init__(self, given):
        self.given = given


class InvalidLot(NotRight):
    """The value is no lot that can be asked for."""

    def __init__(self, given):
        self.given = given


class InvalidNumber(NotRight):
    """The value is no number that can be asked for."""

    def __init__(self, given):
        self.given = given


class InvalidText(NotRight):
    """The value is no text that can be read."""

    def __init__(self, given):
        self.given = given


class InvalidPlace(NotRight):
    """The value is no index of a claim."""

    def __init__(self, given):
        self.given = given


class InvalidClaim(NotRight):
    """The value is no claim."""

    def __init__(self, given):
        self.given = given


class NotAHouse(NotRight):
    """The value is no house."""

    def __init__(self, given):
        self.given = given


class NotAStanding(NotRight):
    """The value is no standing."""

    def __init__(self, given):
        self.given = given


class InvalidEntries(NotRight):
    """The entries are none of a list."""

    def __init__(self, index):
        self.index = index


class InvalidEvents(NotRight):
    """The events cannot be."""

    def __init__(self, index):
        self.index = index


class InvalidRows(NotRight):
    """The rows are none of a standing."""

    def __init__(self, index):
        self.index = index


class InvalidPlaces(NotRight):
    """The places are none."""

    def __init__(self, index):
        self.index = index


class InvalidPromises(NotRight):
    """The promises are none."""

    def __init__(self, index):
        self.index = index


class NotThere(LookupError):
    """What is asked for is not there."""


class UnknownName(NotThere):
    """Nothing has this name."""

    def __init__(self, given):
        self.given = given


class Unwished(NotThere):
    """The kind is none of the wishes."""

    def __init__(self, given):
        self.given = given


class CannotBe(ArithmeticError):
    """What is asked for cannot be."""


class OtherWishes(CannotBe):
    """Two standings have not the same wishes."""


class TooManyAhead(CannotBe):
    """More entries are ahead than a standing can tell of."""

    def __init__(self, many):
        self.many = many


class InUse(CannotBe):
    """A claim needs what should be removed."""

    def __init__(self, index):
        self.index = index


class NothingToUndo(CannotBe):
    """There is nothing to take back."""


class Broken(CannotBe):
    """A claim would not hold."""

    def __init__(self, index, shown):
        self.index = index
        self.shown = shown
