"""A desk by lines."""

from offerlists.basics import is_name, read_number
from offerlists.checks import MOST_CLAIMED_DAYS, is_places
from offerlists.comparing import never_worse
from offerlists.desks import Desk
from offerlists.errors import (
    Broken, InUse, InvalidText, NothingToUndo, OtherWishes, UnknownName, Unwished,
)
from offerlists.houses import House
from offerlists.limits import MOST_NUMBER
from offerlists.standings import read_standing
from offerlists.sure import fewest, sure
from offerlists.waydays import longest_way

# What stands behind the first words of a line. The lines `put` and `house` hold other texts.
FORMS = {
    "remove": ("name",),
    "undo": (),
    "claim sure": ("name", "places"),
    "claim never worse": ("name", "name"),
    "claim within": ("name", "kind", "days"),
    "sure": ("name", "places"),
    "compare": ("name", "name"),
    "days": ("name", "kind"),
    "fewest": ("name",),
    "names": (),
    "show": ("name",),
}


class Console:
    """A desk to which one line at a time is said."""

    def __init__(self, house):
        self._desk = Desk(house)

    def say(self, line):
        """The answer to a line."""
        call = read_line(line)
        if call is None:
            raise InvalidText(line)
        head, values = call
        return answer(self._desk, head, values)


def read_line(line):
    """The pair of the first words of a line and the values behind them, None if it is none of the lines."""
    if not isinstance(line, str) or "\n" in line:
        return None
    if line.startswith("house "):
        return ("house", [line])
    if line.startswith("put "):
        name, colon, text = line.removeprefix("put ").partition(": ")
        return ("put", [name, text]) if colon and is_name(name) else None
    for head in FORMS:
        if line == head or line.startswith(head + " "):
            values = read_values(FORMS[head], line.removeprefix(head).split(" ")[1:])
            return None if values is None else (head, values)
    return None


def read_values(form, words):
    """What words stand for, None if they have not this form."""
    if "places" in form:
        # All words behind the name.
        words = words[:1] + [words[1:]]
    if len(words) != len(form):
        return None
    values = [read_value(sort, word) for sort, word in zip(form, words)]
    return None if any([value is None for value in values]) else values


def read_value(sort, word):
    """What a word stands for, None if it is none of this sort."""
    if sort == "places":
        return read_places(word)
    if sort == "days":
        return read_number(word, 1, MOST_CLAIMED_DAYS)
    # Names of standings and kinds are written alike.
    return word if is_name(word) else None


def read_places(words):
    """The places that these words tell, None if they tell none."""
    places = tuple([(kind, read_number(number, 1, MOST_NUMBER)) for number, kind in zip(words[::2], words[1::2])])
    # A number without a kind stands in no pair.
    return places if places and len(words) == 2 * len(places) and is_places(places) else None


def say_put(desk, values):
    """Puts a standing under a name."""
    name, text = values
    desk[name] = read_standing(text.replace("; ", "\n"))
    return "ok"


def say_remove(desk, values):
    """Removes a standing."""
    desk.remove(values[0])
    return "ok"


def say_undo(desk, values):
    """Takes back a change."""
    desk.undo()
    return "ok"


def say_house(desk, values):
    """Changes the house."""
    desk.change(House.read(values[0]))
    return "ok"


def say_claim_sure(desk, values):
    """Claims that a standing is sure of places."""
    desk.claim(("sure", *values))
    return "ok"


def say_claim_never_worse(desk, values):
    """Claims that a standing is never worse than another one."""
    desk.claim(("never worse", *values))
    return "ok"


def say_claim_within(desk, values):
    """Claims that a place is on its way for so many days at most."""
    desk.claim(("within", *values))
    return "ok"


def say_sure(desk, values):
    """Whether a standing is sure of places."""
    name, places = values
    return "yes" if sure(desk[name], places) else "no"


def say_compare(desk, values):
    """How two standings compare."""
    one, other = [desk[name] for name in values]
    below = never_worse(one, other)
    above = never_worse(other, one)
    if below and above:
        return "alike"
    if below:
        return "never worse"
    return "never better" if above else "either"


def say_days(desk, values):
    """The greatest number of days that a place is on its way."""
    name, kind = values
    return str(longest_way(desk[name], desk.house, kind))


def say_fewest(desk, values):
    """The least number of places with which a standing can be sure."""
    standing = desk[values[0]]
    return str(fewest(standing, standing.wishes))


def say_names(desk, values):
    """The names of all standings."""
    return " ".join(desk.names) or "-"


def say_show(desk, values):
    """The text of a standing."""
    return str(desk[values[0]])


ACTIONS = {
    "put": say_put,
    "remove": say_remove,
    "undo": say_undo,
    "house": say_house,
    "claim sure": say_claim_sure,
    "claim never worse": say_claim_never_worse,
    "claim within": say_claim_within,
    "sure": say_sure,
    "compare": say_compare,
    "days": say_days,
    "fewest": say_fewest,
    "names": say_names,
    "show": say_show,
}


def answer(desk, head, values):
    """The answer to a line, the name of the error's class if there is one."""
    action = ACTIONS[head]
    try:
        return action(desk, values)
    except InvalidText:
        return "InvalidText"
    except UnknownName:
        return "UnknownName"
    except Unwished:
        return "Unwished"
    except OtherWishes:
        return "OtherWishes"
    except InUse:
        return "InUse"
    except NothingToUndo:
        return "NothingToUndo"
    except Broken:
        return "Broken"
