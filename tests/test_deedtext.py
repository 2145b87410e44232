"""[11.1], [11.3]: deeds and tellings as texts."""

import random
import unittest

from pearlrise.deeds import check_deed
from pearlrise.deedtext import read_deed, read_tellings, show_deed, show_tellings
from pearlrise.errors import BadDeed, BadText, PearlError
from tests.texts import changed, wrong_of_deed, wrong_of_tellings
from tests.things import Alike, Keyless, no_names, no_wholes

ROW = (7, 12, 30, "rose", "oval", True)
OTHER = (8, 15, 40, "white", "round", False)
# Each form as the document writes it.
WRITTEN = [
    (("buy", "ab", (ROW,)), "buy ab\n7 12/30 rose oval drilled"),
    (("buy", "ab", (OTHER, ROW)), "buy ab\n8 15/40 white round\n7 12/30 rose oval drilled"),
    (("string", "cd", (7,)), "string cd 7"),
    (("string", "cd", (9, 7, 1000000000)), "string cd 9 7 1000000000"),
    (("string", "cd", (9, 8, 7, 6, 5, 4, 3, 2, 1)), "string cd 9 8 7 6 5 4 3 2 1"),
    (("break", "cd"), "break cd"),
    (("sell", "abcdefgh"), "sell abcdefgh"),
    (("take", "cd", 0), "take cd 0"),
    (("take", "cd", 999999999999), "take cd 999999999999"),
    (("fill", "cd", 3, 7), "fill cd 3 7"),
    (("fill", "cd", 0, 1000000000), "fill cd 0 1000000000"),
    (("aside", 7), "aside 7"),
    (("back", 1000000000), "back 1000000000"),
]
WORDS = ["buy", "string", "break", "sell", "take", "fill", "aside", "back", "at", "drilled"]


def rows(many):
    """So many rows of beads of unlike numbers."""
    return tuple([(number, 5, 6, "rose", "round", number % 2 == 0) for number in range(many, 0, -1)])


def no_deeds():
    """Things that are no deeds."""
    return no_wholes() + [7, "aside 7", ["aside", 7], ("aside",), ("aside", 7, 8), ("aside", 0), ("aside", True),
                          ("aside", "7"), ("back", 1000000001), ("Break", "cd"), ("break", "CD"), ("break", 7),
                          ("string", "cd", ()), ("string", "cd", (7, 7)), ("string", "cd", [7]), ("string", "cd", 7),
                          ("string", "cd", tuple(range(1, 11))), ("take", "cd", -1), ("take", "cd", True),
                          ("fill", "cd", 1), ("fill", "cd", 1, 0), ("buy", "ab", ()), ("buy", "ab", (ROW, ROW)),
                          ("buy", "ab", rows(41)), ("buy", "ab", [ROW]), ("buy", "ab", (list(ROW),)), Alike(),
                          ("buy", "ab", (ROW[:5],)), Keyless(), ("aside", Keyless()), (Keyless(), 7), ([], 7),
                          ("break", {}), ("string", "cd", ([],)), ("buy", "ab", ({},)), ("at", 5, ("aside", 7))]


class Texts(unittest.TestCase):
    def bad(self, function, text, line):
        for turn in range(2):
            with self.assertRaises(BadText, msg=repr(text)) as caught:
                function(text)
            self.assertIs(type(caught.exception), BadText)
            self.assertIsInstance(caught.exception, PearlError)
            self.assertEqual(caught.exception.line, line, repr(text))
            self.assertIs(type(caught.exception.line), int)

    def held_against(self, function, shown, wrong, texts):
        """Each text is read just where it is one by the document, and written again the same."""
        seen = {True: 0, False: 0}
        for text in texts:
            for other in [text] + changed(text):
                line = wrong(other)
                seen[line is None] += 1
                if line is None:
                    self.assertEqual(shown(function(other)), other, repr(other))
                else:
                    self.bad(function, other, line)
        self.assertGreater(seen[True], 50)
        self.assertGreater(seen[False], 500)


class Deeds(Texts):
    def both(self, deed, text):
        """A deed is written as the text, and that is read as the deed."""
        self.assertEqual(show_deed(deed), text)
        self.assertEqual(show_deed(deed=deed), text)
        for found in (read_deed(text), read_deed(text=text)):
            self.assertEqual(found, deed)
            self.assertEqual(repr(found), repr(deed))
            self.assertIsNone(check_deed(found))

    def test_as_written(self):
        for deed, text in WRITTEN:
            self.both(deed, text)

    def test_lots_of_one_to_forty(self):
        for many in (1, 2, 39, 40):
            deed = ("buy", "ab", rows(many))
            self.both(deed, "\n".join(["buy ab"] + [f"{row[0]} 5/6 rose round" + " drilled" * row[5]
                                                    for row in rows(many)]))
            self.assertEqual(len(show_deed(deed).split("\n")), many + 1)

    def test_names_that_are_words(self):
        for word in WORDS:
            self.both(("break", word), f"break {word}")
            self.both(("take", word, 5), f"take {word} 5")
            self.both(("fill", word, 5, 6), f"fill {word} 5 6")
            self.both(("string", word, (5, 6)), f"string {word} 5 6")
            self.both(("sell", word), f"sell {word}")
            bead = (5, 6, 7, word, word, False)
            self.both(("buy", word, (bead,)), f"buy {word}\n5 6/7 {word} {word}")
            self.both(("buy", word, (bead[:5] + (True,),)), f"buy {word}\n5 6/7 {word} {word} drilled")

    def test_written_and_read_by_chance(self):
        chance = random.Random(7)
        for turn in range(300):
            name = "".join(chance.choices("abcxyz", k=chance.randrange(1, 9)))
            number, at = chance.randrange(1, 1000000001), chance.choice([0, 1, 8, chance.randrange(10 ** 12)])
            numbers = tuple(chance.sample(range(1, 1000000001), chance.randrange(1, 10)))
            told = tuple([(part, chance.randrange(1, 1000001), chance.randrange(1, 1000001), name, "oval",
                           chance.random() < 0.5) for part in numbers])
            for deed in [("buy", name, told), ("string", name, numbers), ("break", name), ("sell", name),
                         ("take", name, at), ("fill", name, at, number), ("aside", number), ("back", number)]:
                text = show_deed(deed)
                self.assertEqual(read_deed(text), deed)
                self.assertEqual(show_deed(read_deed(text)), text)

    def test_what_is_no_deed_is_not_written(self):
        for thing in no_deeds() + [("break", name) for name in no_names()]:
            shown = repr(thing)
            for turn in range(2):
                with self.assertRaises(BadDeed, msg=shown) as caught:
                    show_deed(thing)
                self.assertIs(type(caught.exception), BadDeed)
            self.assertEqual(repr(thing), shown)

    def test_a_line_that_cant_be_read(self):
        for text in ["", " ", "\n", "x", "7", "at", "at 5 aside 7", "buy", "buy ", "buy  ab", "buy Ab", "buy ab ",
                     "buy ab 7", " buy ab\n7 12/30 rose oval", "buy 7\n7 12/30 rose oval", "buy abcdefghi\n7 1/1 a b",
                     "string", "string cd", "string cd ", "string 7", "string cd 7 7", "string cd 7  8",
                     "string cd 7 8 ", "string cd 0", "string cd 07", "string cd 1000000001", "string cd -7",
                     "string cd 1 2 3 4 5 6 7 8 9 10", "string cd (7,)", "string cd 7,8", "string cd 7 x", "break",
                     "break ", "break cd ef", "break 7", "break CD", "break  cd", " break cd", "break cd ", "Break cd",
                     "breaks cd", "sell", "sell cd 7", "take cd", "take cd -1", "take cd 00", "take cd 01", "take 1 cd",
                     "take cd 1 2", "take cd 1000000000000", "fill cd 3", "fill cd 7 3 1", "fill cd 3 0", "fill 3 7",
                     "fill cd 3 07", "fill cd 03 7", "fill cd 3 1000000001", "aside", "aside 0", "aside cd",
                     "aside 1000000001", "aside 7 8", "aside 07", "aside +7", "aside\n7", "back", "back 0", "back  7",
                     "back 7 ", "sold cd", "new cd"]:
            self.bad(read_deed, text, 0)

    def test_the_line_of_a_bead(self):
        good = "7 12/30 rose oval"
        for text, line in [("buy ab\nx", 1), ("buy ab\n", 1), (f"buy ab\n{good}\n", 2), (f"buy ab\n\n{good}", 1),
                           (f"buy ab\n{good} ", 1), (f"buy ab\n {good}", 1), (f"buy ab\n0 12/30 rose oval\n{good}", 1),
                           (f"buy ab\n{good}\n8 12/30 rose", 2), (f"buy ab\n{good}\n8 1/1 a b\n9 1/0 a b\nx", 3),
                           (f"buy ab\n{good}\naside 7", 2), (f"buy ab\n{good}\nat 5 aside 7", 2),
                           (f"buy ab\n{good}\nbuy cd\n{good}", 2), ("buy ab\nat 5 aside 7", 1),
                           (f"buy Ab\n{good}\nx", 0), (f"{good}\nbuy ab", 0)]:
            self.bad(read_deed, text, line)

    def test_a_number_that_stands_ahead(self):
        for text, line in [("buy ab\n7 1/1 a b\n7 1/1 a b", 2), ("buy ab\n7 1/1 a b\n8 1/1 a b\n7 2/2 c d drilled", 3),
                           ("buy ab\n7 1/1 a b\n8 1/1 a b\n8 1/1 a b\n7 1/1 a b\nx", 3)]:
            self.bad(read_deed, text, line)
        for at in range(1, 40):
            lines = show_deed(("buy", "ab", rows(40))).split("\n")
            lines[at + 1] = lines[at]
            self.bad(read_deed, "\n".join(lines), at + 1)

    def test_the_forty_first_bead(self):
        lines = [f"{number} 1/1 a b" for number in range(1, 60)]
        self.assertEqual(len(read_deed("\n".join(["buy ab"] + lines[:40]))[2]), 40)
        for many in (41, 42, 59):
            self.bad(read_deed, "\n".join(["buy ab"] + lines[:many]), 41)
        self.bad(read_deed, "\n".join(["buy ab"] + lines[:30] + ["x"] + lines[30:]), 31)
        self.bad(read_deed, "\n".join(["buy ab"] + lines[:40] + ["x"]), 41)
        self.bad(read_deed, "\n".join(["buy ab"] + lines[:40] + [lines[0]]), 41)

    def test_a_line_that_lacks(self):
        self.bad(read_deed, "buy ab", 1)
        self.bad(read_deed, "", 0)

    def test_a_line_too_many(self):
        for deed, text in WRITTEN:
            many = len(text.split("\n"))
            for more in ("", " ", "x", "aside 9", "at 5 aside 9", "buy ef"):
                self.bad(read_deed, f"{text}\n{more}", many)
            self.bad(read_deed, f"\n{text}", 0)

    def test_changed(self):
        self.held_against(read_deed, show_deed, wrong_of_deed, [text for deed, text in WRITTEN])


class Tellings(Texts):
    def both(self, tellings, text):
        """Tellings are written as the text, and that is read as the tellings."""
        kept = list(tellings)
        self.assertEqual(show_tellings(tellings), text)
        self.assertEqual(show_tellings(tellings=tellings), text)
        self.assertEqual(tellings, kept)
        for found in (read_tellings(text), read_tellings(text=text)):
            self.assertIs(type(found), list)
            self.assertEqual(found, tellings)
            self.assertEqual(repr(found), repr(tellings))
            found.append("more")
        self.assertEqual(read_tellings(text), tellings)

    def test_none(self):
        self.both([], "")

    def test_one(self):
        for deed, text in WRITTEN:
            for when in (0, 5, 10, 999999999999):
                self.both([(when, deed)], f"at {when} {text}")

    def test_several_with_times_in_any_order(self):
        self.both([(5, ("aside", 7)), (3, ("back", 7)), (5, ("aside", 7)), (0, ("break", "at"))],
                  "at 5 aside 7\nat 3 back 7\nat 5 aside 7\nat 0 break at")
        self.both([(5, ("buy", "ab", (ROW,))), (5, ("buy", "cd", (ROW, OTHER))), (1, ("aside", 7))],
                  "at 5 buy ab\n7 12/30 rose oval drilled\nat 5 buy cd\n7 12/30 rose oval drilled\n"
                  "8 15/40 white round\nat 1 aside 7")
        chance = random.Random(3)
        for turn in range(100):
            some = [chance.choice(WRITTEN) for step in range(chance.randrange(1, 40))]
            times = [chance.randrange(0, 50) for part in some]
            self.both([(when, part[0]) for when, part in zip(times, some)],
                      "\n".join([f"at {when} {part[1]}" for when, part in zip(times, some)]))

    def test_lots_of_forty_one_behind_another(self):
        tellings = [(5, ("buy", "ab", rows(40))), (4, ("buy", "cd", rows(40))), (3, ("aside", 1))]
        text = show_tellings(tellings)
        self.both(tellings, text)
        self.bad(read_tellings, text.replace("at 3 aside 1", "99 1/1 a b\nat 3 aside 1"), 82)
        self.bad(read_tellings, text.replace("at 4 buy cd", "99 1/1 a b\nat 4 buy cd"), 41)

    def test_what_is_no_deed_is_not_written(self):
        good = [(5, ("aside", 7)), (6, ("buy", "ab", (ROW,)))]
        for thing in no_deeds():
            wrong = [(5, thing)]
            for tellings in (wrong, good + wrong, wrong + good, good[:1] + wrong + good[1:]):
                kept = list(tellings)
                with self.assertRaises(BadDeed, msg=repr(thing)) as caught:
                    show_tellings(tellings)
                self.assertIs(type(caught.exception), BadDeed)
                self.assertEqual(len(tellings), len(kept))
        self.assertEqual(len(show_tellings(good).split("\n")), 3)

    def test_what_is_no_time_is_not_written(self):
        for when in no_wholes() + [-1, [5], {5: 5}, Keyless(), Alike()]:
            for tellings in ([(when, ("aside", 7))], [(5, ("aside", 7)), (when, ("aside", 7))]):
                with self.assertRaises(BadDeed, msg=repr(when)):
                    show_tellings(tellings)

    def test_a_line_that_cant_be_read(self):
        for text, line in [("\n", 0), (" ", 0), ("x", 0), ("at", 0), ("at ", 0), ("at 5", 0), ("at 5 ", 0),
                           ("at aside 7", 0), ("at 05 aside 7", 0), ("at -5 aside 7", 0), ("at 5  aside 7", 0),
                           ("at  5 aside 7", 0), (" at 5 aside 7", 0), ("at 5 aside 7 ", 0), ("at 5 aside 07", 0),
                           ("at 1000000000000 aside 7", 0), ("aside 7", 0), ("5 aside 7", 0), ("At 5 aside 7", 0),
                           ("at 5 5 aside 7", 0), ("at 5 at 5 aside 7", 0), ("at 5 string cd 7 7", 0),
                           ("at 5 aside 7\n", 1), ("\nat 5 aside 7", 0), ("at 5 aside 7\n\nat 6 back 7", 1),
                           ("at 5 aside 7\nat 6 back 0\nx", 1), ("at 5 aside 7\nat 6 back 7\nx", 2),
                           ("at 5 aside 7\n8 1/1 a b", 1), ("at 5 aside 7\nback 7", 1),
                           ("at 5 buy ab\nat 6 aside 7", 1), ("at 5 buy ab\n7 1/1 a b\nat x", 2),
                           ("at 5 buy ab\n7 1/1 a b\nat", 2), ("at 5 buy ab\n7 1/1 a b\nx", 2),
                           ("at 5 buy ab\n7 1/1 a b\n", 2), ("at 5 buy ab\n7 1/1 a b\n7 1/1 a b", 2),
                           ("at 5 buy ab\n7 1/1 a b\n7 1/1 a b\nat x", 2), ("at 5 buy ab\n7 1/1 a\nat 6 aside 7", 1),
                           ("at 5 buy Ab\n7 1/1 a b", 0), ("at 5 buy ab 7\n7 1/1 a b", 0), ("buy ab\n7 1/1 a b", 0)]:
            self.bad(read_tellings, text, line)

    def test_a_line_that_lacks(self):
        for text, line in [("at 5 buy ab", 1), ("at 5 aside 7\nat 6 buy ab", 2),
                           ("at 5 buy ab\n7 1/1 a b\nat 6 buy cd", 3)]:
            self.bad(read_tellings, text, line)

    def test_the_same_number_in_two_lots(self):
        # Whether it was bought already is the stock's to say.
        text = "at 5 buy ab\n7 1/1 a b\nat 6 buy cd\n7 1/1 a b"
        self.assertEqual(show_tellings(read_tellings(text)), text)

    def test_changed(self):
        self.held_against(read_tellings, show_tellings, wrong_of_tellings,
                          [f"at 12 {text}" for deed, text in WRITTEN[:4]] +
                          ["at 5 buy ab\n7 12/30 rose oval\n9 1/1 a b\nat 3 aside 7\nat 0 take cd 10",
                           "at 0 break ab\nat 5 buy b\n7 1/1 a b\nat 5 buy c\n8 1/1 a b"])


if __name__ == "__main__":
    unittest.main()
