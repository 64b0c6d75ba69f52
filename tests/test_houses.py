"""Points [3], [4], [5] and [7]: houses."""

import inspect
import itertools
import unittest

from offerlists.errors import InvalidDays, InvalidText, InvalidWave, InvalidWord
from offerlists.houses import House

WORDS = ("keep", "back", "out")
EVERY = list(itertools.product((1, 2, 3), range(1, 10), WORDS, WORDS))
TEXTS = {f"house wave {w} days {d} silent {s} declined {n}": (w, d, s, n) for w, d, s, n in EVERY}
SIGNS = [chr(code) for code in range(32, 127)] + ["\n"]
OTHERS = (
    None, True, False, (), (1,), (1, 2), [], [1], {}, {1: 1}, b"keep", object(), House(1, 1), House, ValueError("x"),
)


class LikeAll:
    """Equals everything, which no word and no house does."""

    def __eq__(self, other):
        return True


def parts(house):
    return (house.wave, house.days, house.silent, house.declined)


class Made(unittest.TestCase):
    def test_by_position_and_by_name(self):
        for wave, days, silent, declined in EVERY:
            told = (wave, days, silent, declined)
            self.assertEqual(parts(House(wave, days, silent, declined)), told)
            self.assertEqual(parts(House(declined=declined, silent=silent, days=days, wave=wave)), told)
            self.assertEqual(parts(House(wave, days, declined=declined, silent=silent)), told)

    def test_without_the_words(self):
        self.assertEqual(parts(House(2, 3)), (2, 3, "keep", "keep"))
        self.assertEqual(parts(House(2, 3, "back")), (2, 3, "back", "keep"))
        self.assertEqual(parts(House(2, 3, declined="out")), (2, 3, "keep", "out"))

    def test_properties_are_what_was_passed(self):
        house = House(3, 9, "out", "back")
        self.assertIs(house.wave.__class__, int)
        self.assertIs(house.days.__class__, int)
        self.assertIs(house.silent.__class__, str)
        self.assertIs(house.declined.__class__, str)

    def test_properties_are_not_set(self):
        house = House(2, 3)
        for name in ("wave", "days", "silent", "declined"):
            with self.assertRaises(AttributeError):
                setattr(house, name, 1)
        self.assertEqual(parts(house), (2, 3, "keep", "keep"))

    def test_interface(self):
        self.assertEqual(House.__module__, "offerlists.houses")
        self.assertEqual(list(inspect.signature(House).parameters), ["wave", "days", "silent", "declined"])
        self.assertEqual(list(inspect.signature(House.read).parameters), ["text"])
        for name in ("read", "wave", "days", "silent", "declined"):
            self.assertIn(name, vars(House))


class Refused(unittest.TestCase):
    def refused(self, error, given, *arguments, **more):
        with self.assertRaises(error) as caught:
            House(*arguments, **more)
        self.assertIs(caught.exception.__class__, error)
        self.assertIs(caught.exception.given, given)

    def test_wave(self):
        for wave in OTHERS + (0, 4, -1, 10, 10 ** 39, "", "1", "keep", LikeAll()):
            self.refused(InvalidWave, wave, wave, 3)
            self.refused(InvalidWave, wave, days=3, wave=wave)

    def test_days(self):
        for days in OTHERS + (0, 10, -1, 10 ** 39, "", "1", "keep", LikeAll()):
            self.refused(InvalidDays, days, 2, days)
            self.refused(InvalidDays, days, days=days, wave=2)

    def test_words(self):
        for word in OTHERS + (0, 1, "", "Keep", "keep ", " keep", "kee", "keeps", "keep\n", "back out", LikeAll()):
            self.refused(InvalidWord, word, 2, 3, word)
            self.refused(InvalidWord, word, 2, 3, "back", word)
            self.refused(InvalidWord, word, 2, 3, silent=word)
            self.refused(InvalidWord, word, 2, 3, declined=word)

    def test_the_first_in_the_order_of_the_signature(self):
        self.refused(InvalidWave, 0, 0, 0, "no", "never")
        self.refused(InvalidWave, 0, declined="never", silent="no", days=0, wave=0)
        self.refused(InvalidDays, 0, 1, 0, "no", "never")
        self.refused(InvalidDays, 0, 1, declined="never", days=0)
        self.refused(InvalidWord, "no", 1, 1, "no", "never")
        self.refused(InvalidWord, "no", 1, 1, declined="never", silent="no")
        self.refused(InvalidWord, "never", 1, 1, "out", "never")

    def test_what_is_passed_is_not_changed(self):
        for value in ([1, [2]], {"wave": [1]}):
            before = repr(value)
            self.refused(InvalidWave, value, value, 1)
            self.refused(InvalidDays, value, 1, value)
            self.refused(InvalidWord, value, 1, 1, value)
            self.assertEqual(repr(value), before)


class Texts(unittest.TestCase):
    def refused(self, text):
        with self.assertRaises(InvalidText) as caught:
            House.read(text)
        self.assertIs(caught.exception.__class__, InvalidText)
        self.assertIs(caught.exception.given, text)

    def test_the_text_in_the_document(self):
        self.assertEqual(str(House(2, 3, "back")), "house wave 2 days 3 silent back declined keep")
        self.assertEqual(parts(House.read("house wave 2 days 3 silent back declined keep")), (2, 3, "back", "keep"))

    def test_each_house(self):
        for text, told in TEXTS.items():
            self.assertEqual(str(House(*told)), text)
            self.assertEqual(parts(House.read(text)), told)
            self.assertEqual(parts(House.read(text=text)), told)
            self.assertIs(House.read(text).__class__, House)

    def read_or_refused(self, text):
        if text in TEXTS:
            self.assertEqual(parts(House.read(text)), TEXTS[text])
        else:
            self.refused(text)

    def test_a_character_more_less_or_other(self):
        for text in ("house wave 1 days 9 silent back declined out", "house wave 3 days 1 silent keep declined keep"):
            for at in range(len(text) + 1):
                self.read_or_refused(text[:at] + text[at + 1:])
                for sign in SIGNS:
                    self.read_or_refused(text[:at] + sign + text[at:])
                    self.read_or_refused(text[:at] + sign + text[at + 1:])

    def test_a_word_more_less_or_other(self):
        words = "house wave 2 days 3 silent back declined keep".split(" ")
        for at in range(len(words) + 1):
            self.read_or_refused(" ".join(words[:at] + words[at + 1:]))
            for word in ("", "keep", "out", "house", "wave", "0", "4", "10", "03", "+3", "2 ", "Keep", "silent", "None"):
                self.read_or_refused(" ".join(words[:at] + [word] + words[at:]))
                self.read_or_refused(" ".join(words[:at] + [word] + words[at + 1:]))

    def test_numbers_beyond_the_bounds(self):
        for wave, days in ((0, 3), (4, 3), (-1, 3), (2, 0), (2, 10), (2, -1), (12, 3), (2, 99)):
            self.refused(f"house wave {wave} days {days} silent back declined keep")

    def test_other_texts(self):
        text = "house wave 2 days 3 silent back declined keep"
        for wrong in ("", " ", "house", repr(House(2, 3)), text.upper(), text.title(), text + "\n", "\n" + text,
                      text + " " + text, text.replace(" ", "\n"), text.replace(" ", "  "), text[::-1],
                      "house days 3 wave 2 silent back declined keep", "house wave 2 days 3 declined keep silent back",
                      "house wave \u0662 days 3 silent back declined keep", "x" * 4000):
            self.refused(wrong)

    def test_no_strings(self):
        text = "house wave 2 days 3 silent back declined keep"
        for value in OTHERS + (0, 2, (text,), [text], {text: text}, text.encode(), House(2, 3, "back"), LikeAll()):
            self.refused(value)

    def test_repr_for_all_numbers(self):
        for told in EVERY:
            self.assertEqual(repr(House(*told)), f"House of {told[1]} days")
        self.assertEqual(repr(House(1, 1)), "House of 1 days")


class Equal(unittest.TestCase):
    def test_exactly_if_their_texts_are(self):
        houses = [House(*told) for told in EVERY]
        others = [House.read(text) for text in TEXTS]
        for at, house in enumerate(houses):
            for behind, other in enumerate(others):
                self.assertIs(house == other, at == behind)
                self.assertIs(house != other, at != behind)

    def test_itself(self):
        house = House(2, 3)
        self.assertTrue(house == house)
        self.assertFalse(house != house)

    def test_never_a_value_of_another_class(self):
        house = House(2, 3)
        for value in (str(house), repr(house), parts(house), list(parts(house)), None, True, 2, (), {}, House, object(),
                      LikeAll()):
            self.assertIs(house == value, False)
            self.assertIs(house != value, True)

    def test_true(self):
        for told in EVERY:
            self.assertIs(bool(House(*told)), True)


if __name__ == "__main__":
    unittest.main()
