"""The checks of parameters that occur in several modules."""

from offerlists.errors import InvalidLot, InvalidPlaces, InvalidPromises, NotAHouse
from offerlists.limits import MOST_NUMBER, MOST_PAIRS
from offerlists.basics import is_lot, wrong_pair
from offerlists.houses import House

MOST_PROMISED_DAYS = 99
MOST_CLAIMED_DAYS = 99


def check_house(house):
    """Raises NotAHouse if this is no house."""
    if not isinstance(house, House):
        raise NotAHouse(house)


def check_lot(lot):
    """Raises InvalidLot if this is no lot."""
    if not is_lot(lot):
        raise InvalidLot(lot)


def is_places(value):
    """Whether a value are places."""
    return isinstance(value, tuple) and wrong_of_a_few(value, MOST_NUMBER) is None


def check_places(places):
    """Raises InvalidPlaces if these are no places."""
    if not isinstance(places, tuple):
        raise InvalidPlaces(None)
    wrong = wrong_of_a_few(places, MOST_NUMBER)
    if wrong is not None:
        raise InvalidPlaces(wrong)


def check_promises(promises):
    """Raises InvalidPromises if these are no promises."""
    if not isinstance(promises, tuple):
        raise InvalidPromises(None)
    wrong = wrong_of_a_few(promises, MOST_PROMISED_DAYS)
    if wrong is not None:
        raise InvalidPromises(wrong)


def wrong_of_a_few(pairs, most):
    """As wrong_pair, and the seventh pair is not right either."""
    wrong = wrong_pair(pairs[:MOST_PAIRS], most)
    if wrong is None and len(pairs) > MOST_PAIRS:
        return MOST_PAIRS
    return wrong
