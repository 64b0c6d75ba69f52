"""Houses: the rules by which places are offered."""

from offerlists.errors import InvalidDays, InvalidText, InvalidWave, InvalidWord
from offerlists.limits import MOST_DAYS, MOST_WAVE, WORDS
from offerlists.basics import is_number, read_number

FIXED_WORDS = ("house", "wave", "days", "silent", "declined")


class House:
    """How many are asked at once, for how many days, and what becomes of those who do not say yes."""

    def __init__(self, wave, days, silent="keep", declined="keep"):
        if not is_number(wave, 1, MOST_WAVE):
            raise InvalidWave(wave)
        if not is_number(days, 1, MOST_DAYS):
            raise InvalidDays(days)
        for word in (silent, declined):
            if not is_word(word):
                raise InvalidWord(word)
        self._wave = wave
        self._days = days
        self._silent = silent
        self._declined = declined

    @classmethod
    def read(cls, text):
        """The house with this text."""
        parts = house_parts(text)
        if parts is None:
            raise InvalidText(text)
        wave, days, silent, declined = parts
        return cls(wave, days, silent, declined)

    @property
    def wave(self):
        """How many are asked at once."""
        return self._wave

    @property
    def days(self):
        """For how many days an offer is open."""
        return self._days

    @property
    def silent(self):
        """What becomes of those who say nothing."""
        return self._silent

    @property
    def declined(self):
        """What becomes of those who say no."""
        return self._declined

    def __eq__(self, other):
        return (isinstance(other, House) and self._wave == other._wave and self._days == other._days
                and self._silent == other._silent and self._declined == other._declined)

    def __str__(self):
        return f"house wave {self._wave} days {self._days} silent {self._silent} declined {self._declined}"

    def __repr__(self):
        return f"House of {self._days} days"


def is_word(value):
    """Whether a value is one of the words of houses."""
    return isinstance(value, str) and value in WORDS


def house_parts(text):
    """Wave, days and both words of the house with this text, or None if no house has it."""
    if not isinstance(text, str):
        return None
    # Splitting at each single space leaves empty words where spaces are too many.
    words = text.split(" ")
    if len(words) != 9 or (words[0], *words[1::2]) != FIXED_WORDS:
        return None
    wave = read_number(words[2], 1, MOST_WAVE)
    days = read_number(words[4], 1, MOST_DAYS)
    if wave is None or days is None or not is_word(words[6]) or not is_word(words[8]):
        return None
    return (wave, days, words[6], words[8])
