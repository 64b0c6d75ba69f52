"""How a day goes on a list: the morning, the events by day, the evening."""

from offerlists.limits import MOST_ENTRIES
from offerlists.basics import is_integer, is_lot, is_name


class Place:
    """A place that has not been given, on a day of a list."""

    def __init__(self, number, kind, asked, offers):
        self.number = number
        self.kind = kind
        # Both hold names of people on the list alone, in the order in which they were asked.
        self.asked = list(asked)
        self.last_days = dict(offers)


class Day:
    """A day of a list: all that stands on the list, and changes while the day goes on."""

    def __init__(self, house, number, entries, places, given):
        self.rules = house
        self.number = number
        # The wishes by names, in the order of the list.
        self.people = dict(entries)
        self.stock = [Place(*place) for place in places]
        self.handed = list(given)
        # "yes" or "no" by pairs of a name and the number of a place.
        self.answers = {}


def morning(day):
    """Asks whoever is asked on this morning: the pairs of a name and a number, in their order."""
    pairs = []
    for place in day.stock:
        if not place.last_days:
            for name in next_names(day, place):
                place.asked.append(name)
                place.last_days[name] = day.number + day.rules.days - 1
                pairs.append((name, place.number))
    return pairs


def next_names(day, place):
    """Who is asked for a place, if it has no open offers."""
    names = [name for name in day.people if place.kind in day.people[name] and name not in place.asked]
    return names[:day.rules.wave]


def happen(day, event):
    """Lets an event happen and returns True; False if it is no event or cannot be now."""
    if not isinstance(event, tuple) or not event or not isinstance(event[0], str):
        return False
    form = (event[0], len(event))
    if form == ("place", 2):
        return come(day, event[1])
    if form == ("join", 3):
        return join_list(day, event[1], event[2])
    if form == ("leave", 2):
        return leave_list(day, event[1])
    if form in (("yes", 3), ("no", 3)):
        return answer(day, event[0], event[1], event[2])
    return False


def come(day, kind):
    """A place of this kind comes, if it is a kind."""
    if not is_name(kind):
        return False
    # Each place that has come is in stock or has been given, so the next number is their sum.
    day.stock.append(Place(len(day.stock) + len(day.handed), kind, (), ()))
    return True


def join_list(day, name, wishes):
    """Somebody joins the list at its end, if this can be."""
    if not is_name(name) or name in day.people or not is_lot(wishes) or len(day.people) >= MOST_ENTRIES:
        return False
    day.people[name] = wishes
    return True


def leave_list(day, name):
    """Somebody leaves the list, if on it."""
    if not is_name(name) or name not in day.people:
        return False
    put_off(day, name)
    return True


def answer(day, word, name, number):
    """Somebody answers an open offer, if there is one that has no answer yet."""
    if not is_name(name) or not is_integer(number) or (name, number) in day.answers:
        return False
    if number not in [place.number for place in day.stock if name in place.last_days]:
        return False
    day.answers[(name, number)] = word
    return True


def put_off(day, name):
    """An entry is off the list."""
    del day.people[name]
    for place in day.stock:
        place.asked = [other for other in place.asked if other != name]
        place.last_days = {other: place.last_days[other] for other in place.last_days if other != name}
    # The name may come again on this very day, and then has said nothing.
    day.answers = {key: day.answers[key] for key in day.answers if key[0] != name}


def evening(day):
    """Gives places, then treats those who have said no, then those who were silent."""
    give_places(day)
    # Those of given places count, too, so it is the answers that tell who has said no.
    declining = [name for name in day.people if has_declined(day, name)]
    end_declined(day)
    treat(day, declining, day.rules.declined)
    # A yes that was not followed by a place has ended with it, so what is open now has no answer.
    silent = [name for name in day.people if has_expiring(day, name)]
    end_expiring(day)
    treat(day, silent, day.rules.silent)


def give_places(day):
    """Each place goes to the first one on the list who has said yes to it."""
    for place in list(day.stock):
        takers = [name for name in day.people if day.answers.get((name, place.number)) == "yes"]
        if takers:
            day.handed.append((place.number, place.kind, takers[0]))
            day.stock = [other for other in day.stock if other.number != place.number]
            put_off(day, takers[0])


def has_declined(day, name):
    """Whether somebody has said no on this day."""
    return any([key[0] == name and day.answers[key] == "no" for key in day.answers])


def end_declined(day):
    """The offers that were answered by no end."""
    for place in day.stock:
        place.last_days = {
            name: place.last_days[name] for name in place.last_days if day.answers.get((name, place.number)) != "no"
        }


def has_expiring(day, name):
    """Whether an open offer of somebody has its last day today."""
    return any([place.last_days.get(name) == day.number for place in day.stock])


def end_expiring(day):
    """The offers that have their last day today end."""
    for place in day.stock:
        place.last_days = {
            name: place.last_days[name] for name in place.last_days if place.last_days[name] != day.number
        }


def treat(day, names, word):
    """What becomes of these people, in the order of the list, by a word of the house."""
    for name in names:
        if word == "back":
            wishes = day.people.pop(name)
            day.people[name] = wishes
        if word == "out":
            put_off(day, name)
