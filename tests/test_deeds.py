"""[8.2]: the forms of deeds, and BadDeed."""

import unittest

from pearlrise.beads import Bead
from pearlrise.deeds import check_deed
from pearlrise.errors import BadDeed, PearlError
from tests.things import Keyless, no_names, no_truths, no_wholes, others

ROW = (7, 12, 30, "rose", "oval", True)
GREAT = 10 ** 40


def rows(many):
    """So many rows of beads of unlike numbers."""
    return tuple([(number, 5, 5, "rose", "round", False) for number in range(1, many + 1)])


# One deed of each form.
DEEDS = [("buy", "ab", (ROW, (8, 1, 1000000, "a", "round", False))), ("string", "cd", (7, 9, 8)), ("break", "cd"),
         ("sell", "cd"), ("take", "cd", 3), ("fill", "cd", 3, 7), ("aside", 7), ("back", 7)]
NAMED = ("buy", "string", "break", "sell", "take", "fill")
# Where in a deed a number stands, and where a place does.
NUMBER_AT = {"fill": 3, "aside": 1, "back": 1}
PLACE_AT = {"take": 2, "fill": 2}


def no_numbers():
    return no_wholes() + [0, -1, 1000000001, GREAT, -GREAT]


def with_part(deed, at, thing):
    """A deed with another thing at a place."""
    return deed[:at] + (thing,) + deed[at + 1:]


class Deeds(unittest.TestCase):
    def good(self, deed):
        shown = repr(deed)
        self.assertIsNone(check_deed(deed), deed)
        self.assertEqual(repr(deed), shown)
        self.assertIsNone(check_deed(deed=deed), deed)

    def bad(self, thing):
        for turn in range(2):
            with self.assertRaises(BadDeed, msg=repr(thing)) as caught:
                check_deed(thing)
            self.assertIs(type(caught.exception), BadDeed)
            self.assertIsInstance(caught.exception, PearlError)

    def test_the_eight_forms(self):
        for deed in DEEDS:
            self.good(deed)

    def test_names_at_their_bounds(self):
        for deed in DEEDS:
            if deed[0] in NAMED:
                for name in ("a", "z", "abcdefgh", "buy", "round"):
                    self.good(with_part(deed, 1, name))

    def test_numbers_at_their_bounds(self):
        for deed in DEEDS:
            if deed[0] in NUMBER_AT:
                for number in (1, 2, 999999999, 1000000000):
                    self.good(with_part(deed, NUMBER_AT[deed[0]], number))

    def test_places_at_their_bounds(self):
        for deed in DEEDS:
            if deed[0] in PLACE_AT:
                for at in (0, 1, 8, 9, 10, 1000000000, 1000000001, GREAT):
                    self.good(with_part(deed, PLACE_AT[deed[0]], at))

    def test_how_many_are_bought(self):
        for many in (1, 2, 39, 40):
            self.good(("buy", "ab", rows(many)))
        for many in (0, 41, 42, 80):
            self.bad(("buy", "ab", rows(many)))

    def test_how_many_are_strung(self):
        for many in (1, 2, 8, 9):
            self.good(("string", "ab", tuple(range(1, many + 1))))
            self.good(("string", "ab", tuple(range(1000000000, 1000000000 - many, -1))))
        for many in (0, 10, 11, 40):
            self.bad(("string", "ab", tuple(range(1, many + 1))))

    def test_a_thing_less_or_more(self):
        for deed in DEEDS:
            for at in range(len(deed)):
                self.bad(deed[:at] + deed[at + 1:])
                self.bad(deed[:at])
            for thing in deed + (None, 0, 5, "cd", (), (7,), Keyless()):
                self.bad(deed + (thing,))
                self.bad((thing,) + deed)
                self.bad(deed[:1] + (thing,) + deed[1:])

    def test_a_list_for_a_tuple(self):
        for deed in DEEDS:
            self.bad(list(deed))
            self.bad([deed])
            self.bad((deed,))
        self.bad(("buy", "ab", [ROW]))
        self.bad(("buy", "ab", (list(ROW),)))
        self.bad(("buy", "ab", (ROW, [8, 1, 1, "a", "round", False])))
        self.bad(("string", "cd", [7, 9, 8]))
        self.bad(("string", "cd", ([7, 9, 8],)))
        self.bad(("string", "cd", ((7, 9, 8),)))
        self.bad(("buy", "ab", ROW))
        self.bad(("buy", "ab", Bead(*ROW)))
        self.bad(("buy", "ab", (Bead(*ROW),)))
        self.bad(("string", "cd", (Bead(*ROW),)))

    def test_a_word_that_is_none(self):
        for deed in DEEDS:
            for word in ["", "Buy", "BUY", "buy ", " buy", "buys", "bu", "sold", "at", "lot", "name", "number", "rows",
                         deed[0] + "\n", deed[0].upper(), deed[0][:-1], deed[0].encode()] + no_names():
                self.bad(with_part(deed, 0, word))

    def test_a_word_with_the_things_of_another(self):
        alike = [{"break", "sell"}, {"aside", "back"}]
        for deed in DEEDS:
            for other in DEEDS:
                if deed[0] != other[0] and {deed[0], other[0]} not in alike:
                    self.bad((deed[0],) + other[1:])
        self.good(("sell",) + ("break", "cd")[1:])

    def test_a_name_that_is_none(self):
        for deed in DEEDS:
            if deed[0] in NAMED:
                for thing in no_names():
                    self.bad(with_part(deed, 1, thing))

    def test_a_number_that_is_none(self):
        for deed in DEEDS:
            if deed[0] in NUMBER_AT:
                for thing in no_numbers():
                    self.bad(with_part(deed, NUMBER_AT[deed[0]], thing))

    def test_a_place_that_is_none(self):
        for deed in DEEDS:
            if deed[0] in PLACE_AT:
                for thing in no_wholes() + [-1, -2, -GREAT]:
                    self.bad(with_part(deed, PLACE_AT[deed[0]], thing))

    def test_numbers_of_a_string_that_are_none(self):
        for thing in no_numbers():
            self.bad(("string", "cd", (thing,)))
            self.bad(("string", "cd", (thing, 7, 9)))
            self.bad(("string", "cd", (7, 9, thing)))
        for thing in no_wholes() + [0, 7, 789]:
            self.bad(("string", "cd", thing if thing != (1,) else ()))

    def test_a_number_told_twice(self):
        for numbers in [(7, 7), (7, 9, 7), (1, 2, 3, 4, 5, 6, 7, 8, 1), (1, 1, 1)]:
            self.bad(("string", "cd", numbers))
        other = (7, 13, 31, "white", "round", False)
        for told in [(ROW, ROW), (ROW, other), (other,) + rows(7), rows(39) + ((1, 5, 6, "a", "b", True),)]:
            self.bad(("buy", "ab", told))
        self.good(("buy", "ab", (ROW, (8,) + ROW[1:])))

    def test_rows_that_make_no_bead(self):
        wrong = [no_numbers(), no_wholes() + [0, -1, 1000001, GREAT], no_wholes() + [0, -1, 1000001, GREAT], no_names(),
                 no_names(), no_truths()]
        for at, things in enumerate(wrong):
            for thing in things:
                row = with_part(ROW, at, thing)
                self.bad(("buy", "ab", (row,)))
                self.bad(("buy", "ab", rows(3) + (row,)))
                self.bad(("buy", "ab", (row,) + rows(3)))
        for row in [ROW[:5], ROW[:4], ROW + (1,), (), str(ROW), dict(enumerate(ROW))] + no_wholes() + [7]:
            self.bad(("buy", "ab", (row,)))
            self.bad(("buy", "ab", rows(3) + (row,)))
        for thing in no_wholes() + [0, 7]:
            self.bad(("buy", "ab", thing))

    def test_what_is_no_tuple(self):
        for thing in no_wholes() + [0, 7, "buy", "break cd", "aside 7", {"break": "cd"}, {"aside", 7}, Bead(*ROW)]:
            self.bad(thing)
        self.bad(())

    def test_any_kind_at_any_place(self):
        for deed in DEEDS:
            for at in range(len(deed)):
                for thing in others() + [Keyless(), [[]], ([],), ({},), (Keyless(),)]:
                    # One tuple of these is what a string may have.
                    if (deed[0], at, thing) != ("string", 2, (1,)):
                        self.bad(with_part(deed, at, thing))

    def test_a_deed_stays(self):
        numbers, told = (7, 9, 8), rows(3)
        deed = ("string", "cd", numbers)
        self.good(deed)
        self.assertIs(deed[2], numbers)
        listed = ["string", "cd", [7]]
        self.bad(listed)
        self.assertEqual(listed, ["string", "cd", [7]])
        self.good(("buy", "ab", told))
        self.assertEqual(told, rows(3))


if __name__ == "__main__":
    unittest.main()
