"""The limits of what can be asked, and the words of houses."""

MOST_WAVE = 3
MOST_DAYS = 9
MOST_KINDS = 4
MOST_AHEAD = 12
MOST_ENTRIES = 30
MOST_NUMBER = 20
MOST_PAIRS = 6
WORDS = ("keep", "back", "out")
