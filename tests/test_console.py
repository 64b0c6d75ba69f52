"""Points [3] to [6] and the console's part of the interface: a desk by lines."""

import inspect

from offerlists.console import Console
from offerlists.errors import InvalidText, NotAHouse
from offerlists.houses import House
from values import NO_HOUSES, OTHERS, PLAIN, Base, MINE

ONE = "put ann: wishes flat garden; ahead 2: flat; ahead 1: flat garden"
TWO = "put bob: wishes flat garden; ahead 3 people"
THREE = "put cid: wishes flat; ahead 3 people; wish 2: flat; wish 1: house"


class Said(Base):
    def said(self, lines, house=PLAIN):
        """A console to which these lines have been said, each with the answer ok."""
        console = Console(house)
        for line in lines:
            self.assertEqual(console.say(line), "ok", line)
        return console

    def answers(self, console, *pairs):
        for line, answer in pairs:
            found = console.say(line)
            self.assertEqual((line, found, found.__class__), (line, answer, str))

    def no_lines(self, console, *lines):
        before = self.told(console)
        for line in lines:
            self.refused(InvalidText, {"given": line}, console.say, line)
        self.assertEqual(self.told(console), before)

    def told(self, console):
        """What can be read by lines."""
        names = console.say("names").split(" ") if console.say("names") != "-" else []
        rows = [console.say("show " + name) for name in names]
        return names + rows + [console.say(f"days {name} flat") for name in names]


class Lines(Said):
    def test_interface(self):
        self.assertEqual(Console.__module__, "offerlists.console")
        self.assertEqual(list(inspect.signature(Console).parameters), ["house"])
        self.assertIn("say", vars(Console))
        self.assertEqual(list(inspect.signature(Console.say).parameters), ["self", "line"])
        console = Console(house=House(3, 9))
        self.assertEqual(console.say(line="names"), "-")

    def test_no_houses(self):
        for wrong in NO_HOUSES:
            self.refused(NotAHouse, {"given": wrong}, Console, wrong)
            self.refused(NotAHouse, {"given": wrong}, Console, house=wrong)

    def test_true_and_equal_to_itself_alone(self):
        one, other = Console(PLAIN), Console(PLAIN)
        self.assertEqual((bool(one), one == one, one == other, one != other, one == None), (True, True, False, True, False))

    def test_put_and_show(self):
        console = self.said([ONE, TWO, THREE])
        self.answers(
            console, ("show ann", str(MINE)), ("show bob", "wishes flat garden\nahead 3 people"),
            ("show cid", "wishes flat\nahead 3 people\nwish 2: flat\nwish 1: house"), ("show eve", "UnknownName"),
            ("put ann: wishes tent", "ok"), ("show ann", "wishes tent"), ("names", "ann bob cid"),
            ("put a: wishes b; ahead 0 people by kinds", "ok"), ("show a", "wishes b\nahead 0 people by kinds"),
            ("put a: wishes b; ahead 0 people", "ok"), ("show a", "wishes b\nahead 0 people"),
        )

    def test_texts_that_cannot_be_read(self):
        console = self.said([ONE])
        before = self.told(console)
        for text in (
            "", " ", "  ", "flat", "wishes", "wishes ", "wishes flat;", "wishes flat;ahead 3 people", "wishes flat;  ahead 3 people",
            "wishes flat; ahead 13 people", "wishes flat; ahead 3 people; ", "wishes flat ; ahead 3 people", "wishes garden flat",
            "wishes flat; ahead 03 people", " wishes flat", "wishes flat ", "; ", "; wishes flat", "wishes: flat", "put ann: wishes flat",
            "wishes flat, ahead 3 people", "wishes flat; ahead 3 people; wish 2: flat", "house wave 1 days 1 silent keep declined keep",
        ):
            self.answers(console, ("put ann: " + text, "InvalidText"), ("put eve: " + text, "InvalidText"))
        self.assertEqual(self.told(console), before)
        self.answers(console, ("undo", "ok"), ("undo", "NothingToUndo"))

    def test_house(self):
        console = self.said([ONE])
        self.answers(
            console, ("days ann flat", "3"), ("house wave 1 days 9 silent out declined back", "ok"), ("days ann flat", "27"),
            ("house wave 2 days 9 silent out declined back", "ok"), ("days ann flat", "9"), ("undo", "ok"), ("days ann flat", "27"),
        )
        for text in ("", " ", "wave", "wave 1 days 9 silent out", "wave 4 days 9 silent out declined back", "wave 1 days 0 silent out declined back",
                     "wave 1 days 9 silent out declined off", "wave 1  days 9 silent out declined back", "wave 01 days 9 silent out declined back",
                     "wave 1 days 9 silent out declined back ", "house wave 1 days 9 silent out declined back", "ann: wishes flat"):
            self.answers(console, ("house " + text, "InvalidText"), ("days ann flat", "27"))

    def test_remove_and_names(self):
        console = self.said([TWO, ONE])
        self.answers(
            console, ("names", "ann bob"), ("remove bob", "ok"), ("names", "ann"), ("remove bob", "UnknownName"), ("remove ann", "ok"),
            ("names", "-"), ("remove ann", "UnknownName"), ("undo", "ok"), ("undo", "ok"), ("names", "ann bob"),
        )

    def test_undo(self):
        console = self.said([ONE, TWO, "claim never worse ann bob", "remove cid"][:3])
        self.answers(
            console, ("remove bob", "InUse"), ("undo", "ok"), ("remove bob", "ok"), ("undo", "ok"), ("undo", "ok"), ("undo", "ok"),
            ("names", "-"), ("undo", "NothingToUndo"), ("undo", "NothingToUndo"),
        )

    def test_claims(self):
        console = self.said([ONE, TWO, THREE])
        self.answers(
            console, ("claim sure ann 4 flat", "ok"), ("claim sure ann 3 flat", "Broken"), ("claim sure ann 1 flat 2 garden", "ok"),
            ("claim never worse ann bob", "ok"), ("claim never worse bob ann", "Broken"), ("claim never worse ann cid", "OtherWishes"),
            ("claim within ann flat 3", "ok"), ("claim within ann flat 2", "Broken"), ("claim within ann garden 1", "ok"),
            ("claim within cid house 99", "Unwished"), ("claim within eve flat 1", "UnknownName"), ("claim sure eve 1 flat", "UnknownName"),
            ("claim never worse eve eve", "UnknownName"), ("claim never worse ann eve", "UnknownName"), ("claim within cid flat 99", "ok"),
            ("remove ann", "InUse"), ("remove bob", "InUse"), ("put ann: wishes flat garden; ahead 4 people", "Broken"),
            ("put ann: wishes flat", "Broken"), ("house wave 1 days 2 silent keep declined keep", "Broken"),
            ("house wave 3 days 3 silent keep declined keep", "ok"), ("show ann", str(MINE)),
        )

    def test_sure(self):
        console = self.said([ONE, TWO])
        self.answers(
            console, ("sure ann 3 flat", "no"), ("sure ann 4 flat", "yes"), ("sure ann 2 flat 1 garden", "no"), ("sure ann 3 flat 1 garden", "yes"),
            ("sure ann 2 garden", "yes"), ("sure bob 2 garden", "no"), ("sure ann 20 tent", "no"), ("sure ann 20 a 20 b 20 c 20 d 4 flat 1 z", "yes"),
            ("sure ann 20 a 20 b 20 c 20 d 3 flat 20 z", "no"), ("sure eve 1 flat", "UnknownName"), ("sure ann 20 flat", "yes"),
        )

    def test_compare(self):
        console = self.said([ONE, TWO, THREE, "put dan: wishes flat garden; ahead 3 people; wish 3: flat; wish 1: garden",
                             "put eve: wishes flat garden; ahead 2: garden"])
        self.answers(
            console, ("compare ann ann", "alike"), ("compare ann dan", "alike"), ("compare dan ann", "alike"), ("compare ann bob", "never worse"),
            ("compare bob ann", "never better"), ("compare ann eve", "either"), ("compare eve ann", "either"), ("compare ann cid", "OtherWishes"),
            ("compare cid ann", "OtherWishes"), ("compare ann fay", "UnknownName"), ("compare fay ann", "UnknownName"),
        )

    def test_days_and_fewest(self):
        console = self.said([ONE, TWO, THREE], House(2, 9))
        self.answers(
            console, ("days ann flat", "9"), ("days ann garden", "0"), ("days cid flat", "9"), ("days cid house", "Unwished"),
            ("days eve flat", "UnknownName"), ("days eve tent", "UnknownName"), ("fewest ann", "2"), ("fewest bob", "4"), ("fewest cid", "3"),
            ("fewest eve", "UnknownName"), ("put ann: wishes flat; ahead 12 people", "ok"), ("fewest ann", "13"), ("days ann flat", "54"),
        )

    def test_names_that_are_words(self):
        words = ("put", "remove", "undo", "house", "claim", "sure", "never", "worse", "within", "compare", "days", "fewest", "names", "show",
                 "wishes", "ahead", "people", "alike", "ok", "either")
        console = self.said([f"put {word}: wishes {word}; ahead 1: {word}" for word in words])
        self.answers(console, ("names", " ".join(sorted(words))))
        for word in words:
            self.answers(
                console, (f"show {word}", f"wishes {word}\nahead 1: {word}"), (f"fewest {word}", "2"), (f"days {word} {word}", "1"),
                (f"sure {word} 2 {word}", "yes"), (f"compare {word} {word}", "alike"), (f"claim sure {word} 2 {word}", "ok"),
                (f"claim never worse {word} {word}", "ok"), (f"claim within {word} {word} 1", "ok"), (f"remove {word}", "InUse"),
            )

    def test_numbers(self):
        console = self.said(["put ann: wishes flat; ahead 12 people"])
        for number in range(1, 21):
            self.answers(console, (f"sure ann {number} flat", "yes" if number > 12 else "no"))
        for number in range(1, 100):
            self.answers(console, (f"claim within ann flat {number}", "ok" if number >= 12 else "Broken"))
        wrongs = ("0", "00", "01", "012", "+1", "-1", "1.0", "1_0", "one", "", " ", "1e1", "0x1", "x")
        self.no_lines(console, *[f"sure ann {wrong} flat" for wrong in wrongs + ("21", "99", "020", "1000")])
        self.no_lines(console, *[f"claim sure ann {wrong} flat" for wrong in wrongs + ("21", "99")])
        self.no_lines(console, *[f"claim within ann flat {wrong}" for wrong in wrongs + ("100", "099", "1000")])

    def test_places(self):
        console = self.said([ONE])
        six = " ".join([f"1 k{at}" for at in range(6)])
        self.answers(console, ("sure ann " + six, "no"), ("claim sure ann " + six, "Broken"))
        for head in ("sure ann", "claim sure ann"):
            self.no_lines(
                console, head, head + " ", head + " flat", head + " 4", head + " flat 4", head + " 4 flat 1", head + " 4 flat garden",
                head + " 4 flat 1 flat", head + " 1 garden 4 flat", head + " 4  flat", head + " 4 flat ", head + " 4 Flat", head + " 4 flat, 1 garden",
                head + " 4 flat 21 garden", head + " 4 flat 0 garden", head + " " + six + " 1 k6", head + " 4 4", head + " (('flat', 4),)",
                head + " 4 abcdefghi",
            )


class Wrong(Said):
    def test_no_texts(self):
        console = self.said([ONE])
        self.no_lines(console, *OTHERS, PLAIN, MINE, [ONE], (ONE,), b"names")

    def test_no_lines(self):
        console = self.said([ONE, TWO])
        self.no_lines(
            console, "", " ", "put", "put ", "put ann", "put ann:", "put ann:wishes flat", "put ann : wishes flat", "put  ann: wishes flat",
            "put Ann: wishes flat", "put ann wishes flat", "put : wishes flat", "put abcdefghi: wishes flat", "put ann bob: wishes flat",
            "Put ann: wishes flat", " put ann: wishes flat", "put 1: wishes flat", "putann: wishes flat",
            "remove", "remove ", "remove Ann", "remove ann bob", "remove ann ", "remove  ann", "remove ann:", "Remove ann", "remove 1",
            "undo ", " undo", "undo 1", "undo ann", "Undo", "house", "House wave 1 days 1 silent keep declined keep", " house wave 1",
            "claim", "claim ", "claim ann", "claim sure", "claim never", "claim never worse", "claim never worse ann", "claim worse ann bob",
            "claim never worse ann bob cid", "claim  never worse ann bob", "claim never  worse ann bob", "claim never worse ann  bob",
            "claim never worse ann bob ", "claim never worse Ann bob", "claim never worse ann 1", "claim within", "claim within ann",
            "claim within ann flat", "claim within ann flat 3 3", "claim within ann 3 flat", "claim within ann Flat 3", "claim within ann flat 3 ",
            "claim longer ann flat 3", "claim undo", "claim sure Ann 4 flat", "sure", "sure 4 flat", "sure Ann 4 flat", "Sure ann 4 flat",
            "compare", "compare ann", "compare ann bob cid", "compare ann, bob", "compare ann Bob", "compare ann  bob", "compare ann bob ",
            "days", "days ann", "days ann flat 3", "days flat", "days Ann flat", "days ann Flat", "days ann  flat", "fewest", "fewest ",
            "fewest ann bob", "fewest Ann", "fewest ann flat", "names ", "names ann", "Names", "name", "show", "show ", "show ann bob", "show Ann",
            "show ann ", "shown ann", "lift 0", "change", "trial", "tried", "ann", "wishes flat", "-", "ok", "help",
        )

    def test_newlines(self):
        console = self.said([ONE, TWO])
        for line in (ONE, TWO, THREE, "remove ann", "undo", "house wave 1 days 1 silent keep declined keep", "claim sure ann 4 flat",
                     "claim never worse ann bob", "claim within ann flat 3", "sure ann 4 flat", "compare ann bob", "days ann flat", "fewest ann",
                     "names", "show ann", "put ann: "):
            self.no_lines(console, line + "\n", "\n" + line, line.replace(" ", "\n", 1) + "\n", line[:3] + "\n" + line[3:])
        self.no_lines(console, "put ann: wishes flat\nahead 3 people")

    def test_what_is_no_line_or_answers_an_error_changes_nothing(self):
        console = self.said([ONE])
        self.no_lines(console, "undo ", "remove ann bob")
        self.answers(console, ("remove bob", "UnknownName"), ("claim sure ann 1 flat", "Broken"), ("put bob: ", "InvalidText"),
                     ("undo", "ok"), ("undo", "NothingToUndo"), ("names", "-"))
