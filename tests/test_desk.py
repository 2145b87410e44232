"""[11.4], [11.5]: the desk."""

import random
import unittest

from pearlrise.beadtext import read_bead, read_lot, show_rule
from pearlrise.best import best
from pearlrise.book import Book
from pearlrise.deedtext import read_tellings, show_deed, show_tellings
from pearlrise.desk import Desk
from pearlrise.errors import BadRule, Elsewhere, Known, NoPlace, NoRow, NoSuch, NotLet, PearlError, TooLate
from pearlrise.exchange import fewest
from pearlrise.giving import could_be
from pearlrise.pairs import most_pairs
from pearlrise.rules import Rule, barred
from pearlrise.worths import worth_of
from tests.texts import changed, is_row_text
from tests.things import Alike, Keyless, fields_in, no_wholes

RULE = "rule 1 3 0 shades"
AB = "buy ab\n1 5/10 rose round\n2 7/20 rose round\n3 5/30 rose round\n4 7/40 rose round drilled\n5 9/50 rose oval"
CD = "buy cd\n13 7/10 rose round\n12 7/20 white round\n11 5/30 rose round"
# At these times x is made, has a gap, is filled again and sold; y is made of 11 2 3 and stands with a gap at 1.
ROWS = [RULE, "rate rose round 2", "rate white round 3", f"at 10 {AB}", f"at 20 {CD}", "at 30 string x 1 2 3",
        "at 40 take x 1", "at 50 fill x 1 13", "at 60 take x 2", "at 61 string y 11 2 3", "at 62 take y 1",
        "at 63 aside 5"]
# Beads of unlike numbers, to be asked of.
SIXTY = " ".join([str(number) for number in range(101, 161)])


def desk_of(rows=tuple(ROWS)):
    """A desk that was told rows."""
    desk = Desk()
    for row in rows:
        desk.say(row)
    return desk


def outcome(desk, row):
    """What a desk answers, or the class of its refusal and the fields."""
    try:
        return desk.say(row)
    except (PearlError, NoSuch, NoPlace, Elsewhere, Known) as error:
        return (type(error).__name__, fields_in(error))


def desk_told(desk):
    """All that a desk can be asked."""
    rows = ["by", "tellings", "in time", "lots", "strings", "aside", "sold", "moves"]
    rows += [f"{word} {number}" for word in ("where", "bead", "worth", "pairs 2", "could") for number in range(1, 15)]
    rows += [f"{word} {name}" for word in ("lot", "string") for name in ("ab", "cd", "x", "y", "v")]
    rows += [f"then {when} {row}" for when in (0, 10, 35, 45, 62, 99) for row in ("moves", "strings", "aside")]
    rows += [f"fewest {name} {at}" for name in ("x", "y") for at in (0, 1, 2)]
    return {row: outcome(desk, row) for row in rows}


class Answers(unittest.TestCase):
    def says(self, desk, row, answer):
        found = desk.say(row)
        self.assertIs(type(found), str)
        self.assertEqual(found, answer, row)

    def asks(self, desk, row, answer):
        """What is asked again is told again alike."""
        self.says(desk, row, answer)
        self.says(desk, row, answer)
        self.assertEqual(desk.say(row=row), answer)

    def test_a_rule(self):
        for row in (RULE, "rule 0 10 0 any", "rule 5 5 999999999999 shades", "rule 0 0 0 any"):
            desk = Desk()
            self.says(desk, row, "ok")
            self.asks(desk, "by", row)
            self.says(desk, RULE, "ok")
            self.asks(desk, "by", RULE)

    def test_nothing_to_tell(self):
        desk = desk_of([RULE])
        for row in ("lots", "strings", "aside", "sold", "moves", "tellings", "in time", "then 5 lots", "then 0 moves",
                    "then 5 strings", "then 5 aside", "then 5 sold"):
            self.asks(desk, row, "-")
        desk = desk_of([RULE, "rate rose round 1", f"at 10 {AB}", "at 20 string x 1", "at 21 string y 2",
                        "at 22 sell y", "at 30 take x 0"])
        for number in (1, 3, 4, 5):
            self.says(desk, f"at 40 string z {number}", f"{number} " + ("aside" if number == 1 else "lot ab") +
                      " > string z 0")
            self.says(desk, "at 40 sell z", f"{number} string z 0 > sold z")
        self.asks(desk, "lot ab", "-")
        self.asks(desk, "aside", "-")
        self.asks(desk, "string x", "-")
        self.asks(desk, "fewest x 0", "-")
        self.asks(desk, "best 3 1 2", "-")
        self.asks(desk, "pairs 0 1 2", "-")
        self.asks(desk, "could 2 1", "2 -\n1 -")
        # All beads were taken from x, so that none is moved.
        self.says(desk, "at 50 break x", "-")
        self.asks(desk, "strings", "-")

    def test_each_deed(self):
        desk = desk_of([RULE])
        for row, answer in [
                (f"at 10 {AB}", "\n".join([f"{number} new > lot ab" for number in (1, 2, 3, 4, 5)])),
                (f"at 20 {CD}", "13 new > lot cd\n12 new > lot cd\n11 new > lot cd"),
                ("at 30 string x 1 2 3", "1 lot ab > string x 0\n2 lot ab > string x 1\n3 lot ab > string x 2"),
                ("at 40 take x 1", "2 string x 1 > aside"),
                ("at 40 fill x 1 13", "13 lot cd > string x 1"),
                ("at 50 sell x", "1 string x 0 > sold x\n13 string x 1 > sold x\n3 string x 2 > sold x"),
                ("at 60 back 2", "2 aside > lot ab"),
                ("at 70 aside 11", "11 lot cd > aside"),
                ("at 80 string y 11", "11 aside > string y 0"),
                ("at 90 break y", "11 string y 0 > aside"),
                # Told late: what it moves in its time.
                ("at 35 aside 5", "5 lot ab > aside"), ("at 0 buy ef\n9 1/1 a b", "9 new > lot ef")]:
            self.says(desk, row, answer)
        self.asks(desk, "moves", "\n".join(
            ["9 new > lot ef"] + [f"{number} new > lot ab" for number in (1, 2, 3, 4, 5)] +
            ["13 new > lot cd", "12 new > lot cd", "11 new > lot cd", "1 lot ab > string x 0", "2 lot ab > string x 1",
             "3 lot ab > string x 2", "5 lot ab > aside", "2 string x 1 > aside", "13 lot cd > string x 1",
             "1 string x 0 > sold x", "13 string x 1 > sold x", "3 string x 2 > sold x", "2 aside > lot ab",
             "11 lot cd > aside", "11 aside > string y 0", "11 string y 0 > aside"]))

    def test_asked_of_the_stock(self):
        desk = desk_of(ROWS[:9])
        for row, answer in [("where 1", "string x 0"), ("where 2", "aside"), ("where 11", "lot cd"),
                            ("bead 4", "4 7/40 rose round drilled"), ("bead 12", "12 7/20 white round"),
                            ("lots", "ab cd"), ("strings", "x"), ("aside", "2 3"), ("sold", "-"), ("lot ab", "4 5"),
                            ("lot cd", "11 12"), ("string x", "1 13 -"), ("fewest x 2", "3"),
                            ("then 9 lots", "-"), ("then 10 lots", "ab"), ("then 19 lots", "ab"),
                            ("then 20 lots", "ab cd"), ("then 30 string x", "1 2 3"), ("then 40 string x", "1 - 3"),
                            ("then 50 string x", "1 13 3"), ("then 59 string x", "1 13 3"),
                            ("then 60 string x", "1 13 -"), ("then 999999999999 string x", "1 13 -"),
                            ("then 40 where 2", "aside"), ("then 39 where 2", "string x 1"),
                            ("then 10 where 2", "lot ab"), ("then 10 bead 5", "5 9/50 rose oval"),
                            ("then 40 aside", "2"), ("then 39 aside", "-"), ("then 40 sold", "-"),
                            ("then 29 strings", "-"), ("then 30 strings", "x"), ("then 20 lot cd", "11 12 13"),
                            ("then 50 lot cd", "11 12"), ("then 40 fewest x 1", "2"),
                            ("then 30 moves", "\n".join(
                                [f"{number} new > lot ab" for number in (1, 2, 3, 4, 5)] +
                                [f"{number} new > lot cd" for number in (13, 12, 11)] +
                                [f"{number} lot ab > string x {number - 1}" for number in (1, 2, 3)]))]:
            self.asks(desk, row, answer)
        desk.say("at 70 fill x 2 3")
        desk.say("at 80 sell x")
        for row, answer in [("sold", "1 3 13"), ("strings", "-"), ("where 13", "sold x"), ("aside", "2"),
                            ("then 79 sold", "-"), ("then 70 string x", "1 13 3"), ("then 80 sold", "1 3 13")]:
            self.asks(desk, row, answer)

    def test_an_exchange_of_several(self):
        desk = desk_of(["rule 0 10 1 shades", "at 0 buy lot\n" + "\n".join(
            [f"{number} {number}/10 rose round" for number in range(9, 14)]), "at 1 string g 9 10", "at 2 take g 0",
            "at 3 string a 11 12", "at 4 string z 9", "at 5 sell z"])
        self.asks(desk, "fewest g 0", "11 13")
        self.asks(desk, "then 3 fewest g 0", "9")
        for row in ("at 6 take a 0", "at 6 fill g 0 11", "at 6 fill a 0 13"):
            desk.say(row)
        self.asks(desk, "string g", "11 10")
        self.asks(desk, "string a", "13 12")
        self.asks(desk, "then 5 fewest g 0", "11 13")

    def test_tellings(self):
        desk = desk_of([RULE, f"at 20 {CD}", "at 30 aside 13", f"at 10 {AB}", "at 30 back 13", "at 5 buy z\n9 1/1 a b"])
        self.asks(desk, "tellings",
                  f"at 20 {CD}\nat 30 aside 13\nat 10 {AB}\nat 30 back 13\nat 5 buy z\n9 1/1 a b")
        self.asks(desk, "in time",
                  f"at 5 buy z\n9 1/1 a b\nat 10 {AB}\nat 20 {CD}\nat 30 aside 13\nat 30 back 13")

    def test_worth(self):
        desk = desk_of()
        for row, answer in [("worth 1", "200"), ("worth 2 1", "1000"), ("worth 4", "1600"), ("worth 12", "1200"),
                            ("worth 1 2 3 4 11 12 13", "7600")]:
            self.asks(desk, row, answer)
        self.says(desk, "rate rose round 1", "ok")
        self.asks(desk, "worth 1", "100")
        self.says(desk, "at 90 buy gh\n77 1/3 rose round drilled\n78 1/1 rose round",
                  "77 new > lot gh\n78 new > lot gh")
        self.asks(desk, "worth 77", "9/2")
        self.asks(desk, "worth 78 77", "11/2")
        self.says(desk, "rate rose round 0", "ok")
        self.asks(desk, "worth 1 2", "0")
        self.says(desk, "rate rose oval 999999999999", "ok")
        self.asks(desk, "worth 5", "2499999999997500")

    def test_best(self):
        desk = desk_of()
        # 5 7 5 across: 3 and 11 are worth the most of those alike, and 12 of those that may stand between them.
        self.assertIn(desk.say("best 3 1 2 3 11 12 13"), ("4800: 3 12 11", "4800: 11 12 3"))
        self.assertIn(desk.say("best 3 1 2 3 11 13"), ("4400: 3 2 11", "4400: 11 2 3"))
        self.assertIn(desk.say("best 2 1 2 3"), ("2000: 1 3", "2000: 3 1"))
        self.asks(desk, "best 1 1 2", "800: 2")
        self.asks(desk, "best 1 2", "800: 2")
        self.asks(desk, "best 9 1 2 3 11 12 13", "-")
        self.asks(desk, "best 2 1 2", "-")

    def test_pairs(self):
        desk = desk_of()
        self.asks(desk, "pairs 0 1 2 3 4 5 11 12 13", "1 3\n2 13")
        self.asks(desk, "pairs 0 13 2", "2 13")
        self.asks(desk, "pairs 2 1 2", "1 2")
        self.asks(desk, "pairs 1 1 2", "-")
        self.asks(desk, "pairs 999999999999 2 3 1 11", "1 3\n2 11")

    def test_could(self):
        desk = desk_of()
        for row, answer in [
                ("could 1", "1 -"), ("could 1\nab 1 1 1000000 -", "1 ab"), ("could 1\nab 0 1 1000000 -", "1 -"),
                ("could 2 1\nab 1 1 6 -\ncd 1 1 9 -", "2 cd\n1 ab"),
                ("could 2 1\ncd 20 1 9 -\nab 20 1 6 -", "2 cd\n1 cd ab"),
                ("could 1 2 3\nab 2 1 9 -", "1 -\n2 -\n3 -"),
                ("could 12 1\nab 1 1 9 white\ncd 1 1 9 rose,white", "12 ab\n1 cd"),
                ("could 12 1 13\nz 20 1 9 white\na 20 1 9 rose,white", "12 z a\n1 a\n13 a")]:
            self.asks(desk, row, answer)

    def test_at_the_bounds(self):
        lines = [f"{number} 5/1 rose round" for number in range(101, 161)]
        desk = desk_of([RULE, "rate rose round 1", "at 0 buy ab\n" + "\n".join(lines[:40]),
                        "at 0 buy cd\n" + "\n".join(lines[40:])])
        self.asks(desk, f"worth {SIXTY}", "60")
        self.assertEqual(len(desk.say(f"pairs 0 {SIXTY}").split("\n")), 30)
        self.assertEqual(desk.say("best 1 " + SIXTY[:47])[:3], "1: ")
        self.assertEqual(len(SIXTY[:47].split(" ")), 12)
        forty = " ".join(SIXTY.split(" ")[:40])
        lots = [f"{name} 5 1 9 -" for name in ("ab", "cd", "ef", "gh", "ij", "kl", "mn", "op")]
        wanted = [f"{number} ab cd ef gh ij kl mn op" for number in range(101, 141)]
        self.asks(desk, "\n".join([f"could {forty}"] + lots), "\n".join(wanted))

    def test_rates_stay_behind_a_new_rule_and_nothing_else_does(self):
        desk = desk_of()
        self.says(desk, "rule 0 9 9 any", "ok")
        for row in ("lots", "strings", "aside", "sold", "moves", "tellings", "in time"):
            self.asks(desk, row, "-")
        self.asks(desk, "by", "rule 0 9 9 any")
        self.assertEqual(outcome(desk, "where 1"), ("NoSuch", ["bead", 1]))
        self.says(desk, f"at 5 {AB}", "\n".join([f"{number} new > lot ab" for number in (1, 2, 3, 4, 5)]))
        self.asks(desk, "worth 1 2", "1000")
        self.says(desk, "at 6 string x 1 5 4", "1 lot ab > string x 0\n5 lot ab > string x 1\n4 lot ab > string x 2")
        self.says(desk, "rule 0 9 9 any", "ok")
        self.asks(desk, "tellings", "-")

    def test_two_desks_side_by_side(self):
        one, other = Desk(), Desk()
        one.say(RULE)
        self.assertEqual(outcome(other, "lots"), ("NoRow", []))
        other.say("rule 0 9 9 any")
        one.say(f"at 5 {AB}")
        one.say("rate rose round 2")
        self.asks(other, "lots", "-")
        other.say(f"at 5 {AB}")
        self.assertEqual(outcome(other, "worth 1"), ("NoSuch", ["rate", ("rose", "round")]))
        other.say("at 6 aside 1")
        self.asks(one, "aside", "-")
        self.asks(one, "by", RULE)
        self.asks(one, "worth 1", "200")


class Refused(unittest.TestCase):
    def refused(self, desk, row, kind, *fields):
        """A row is refused, twice alike, and the desk answers as ahead."""
        told = desk_told(desk)
        for turn in range(2):
            with self.assertRaises(kind, msg=repr(row)) as caught:
                desk.say(row)
            self.assertIs(type(caught.exception), kind, row)
            self.assertEqual(fields_in(caught.exception), list(fields), row)
        self.assertEqual(desk_told(desk), told, row)

    def test_no_such(self):
        desk = desk_of()
        for number in (6, 99, 0, 1000000001, 999999999999):
            for row in (f"where {number}", f"bead {number}", f"then 50 where {number}", f"then 0 bead {number}"):
                self.refused(desk, row, NoSuch, "bead", number)
        self.refused(desk, "then 9 where 1", NoSuch, "bead", 1)
        self.refused(desk, "lot v", NoSuch, "lot", "v")
        self.refused(desk, "then 19 lot cd", NoSuch, "lot", "cd")
        self.refused(desk, "string v", NoSuch, "string", "v")
        self.refused(desk, "then 29 string x", NoSuch, "string", "x")
        self.refused(desk, "fewest v 0", NoSuch, "string", "v")
        self.refused(desk, "then 29 fewest x 0", NoSuch, "string", "x")
        for row in ("worth 1 99 98", "best 3 1 99 98", "pairs 0 1 99 98", "could 1 99 98", "worth 99", "best 1 99",
                    "could 99\nab 1 1 9 -", "could 99"):
            self.refused(desk, row, NoSuch, "bead", 99)

    def test_no_place(self):
        desk = desk_of()
        self.refused(desk, "fewest x 0", NoPlace, 0)
        self.refused(desk, "fewest x 3", NoPlace, 3)
        self.refused(desk, "fewest x 999999999999", NoPlace, 999999999999)
        self.refused(desk, "then 50 fewest x 2", NoPlace, 2)

    def test_beads_ahead_of_rates_and_of_the_rule(self):
        # 5 is oval, of which there is no rate.
        desk = desk_of()
        for row in ("worth 5", "worth 1 5", "best 1 1 5", "best 3 5 1"):
            self.refused(desk, row, NoSuch, "rate", ("rose", "oval"))
        for row in ("worth 5 99", "best 1 5 99"):
            self.refused(desk, row, NoSuch, "bead", 99)
        # With match as great as least no best string is told.
        desk = desk_of(["rule 1 3 1 shades"] + ROWS[1:5])
        self.refused(desk, "best 3 1 2 5", BadRule)
        self.refused(desk, "best 3 1 2 99", NoSuch, "bead", 99)

    def test_deeds(self):
        desk = desk_of()
        for row, kind, *fields in [
                ("at 99 aside 99", NoSuch, "bead", 99), ("at 99 break v", NoSuch, "string", "v"),
                (f"at 99 {AB}", Known, "lot", "ab"), ("at 99 buy v\n50 1/1 a b\n2 1/1 a b", Known, "bead", 2),
                ("at 99 string x 4", Known, "string", "x"), ("at 99 aside 1", Elsewhere, 1, ("string", "x", 0)),
                ("at 99 back 4", Elsewhere, 4, ("lot", "ab")), ("at 99 sell x", NoPlace, 2),
                ("at 99 take x 9", NoPlace, 9), ("at 99 string v 4 12", NotLet, 1, "shade"),
                ("at 9 aside 1", NoSuch, "bead", 1), ("at 29 take x 1", NoSuch, "string", "x"),
                ("at 35 take x 1", TooLate, 3), ("at 25 string v 1", TooLate, 2),
                ("at 45 string v 13", TooLate, 4), ("at 5 buy cd\n50 1/1 a b", TooLate, 1)]:
            self.refused(desk, row, kind, *fields)

    def test_ahead_of_any_rule(self):
        rows = ROWS[1:] + ["by", "tellings", "in time", "lots", "strings", "aside", "sold", "moves", "where 1",
                           "bead 1", "lot ab", "string x", "fewest x 0", "then 5 lots", "then 5 where 1",
                           "worth 1", "best 1 1", "pairs 0 1", "could 1", "could 1\nab 1 1 9 -", "", "x",
                           "rule 5 3 0 any", "rule", "rule 1 3"]
        for row in rows + [None, 7]:
            desk = Desk()
            for turn in range(2):
                with self.assertRaises(NoRow, msg=repr(row)) as caught:
                    desk.say(row)
                self.assertIs(type(caught.exception), NoRow)
            # Nothing of it is kept, no rate either.
            desk.say(RULE)
            desk.say(f"at 10 {AB}")
            with self.assertRaises(NoSuch) as found:
                desk.say("worth 1")
            self.assertEqual(found.exception.name, ("rose", "round"))

    def test_what_is_no_text(self):
        desk = desk_of()
        for thing in no_wholes() + [7, 0, b"lots", ["lots"], ("lots",), {"lots": 1}, {}, Keyless(), Alike()]:
            self.refused(desk, thing, NoRow)
            with self.assertRaises(NoRow):
                Desk().say(thing)

    def test_no_row(self):
        desk = desk_of()
        forty_one = " ".join(SIXTY.split(" ")[:41])
        nine = "\n".join([f"{name} 5 1 9 -" for name in "abcdefghi"])
        for row in ["", " ", "\n", "-", "ok", "x", "Lots", "LOTS", "lots ", " lots", "lots\n", "\nlots", "lots 1",
                    "lots ab", "lot", "lot ", "lot 1", "lot ab cd", "lot  ab", "lot Ab", "lot abcdefghi", "strings x",
                    "string", "string x y", "string 1", "aside 1", "aside ", "sold x", "moves 1", "moves\n", "where",
                    "where ", "where x", "where 1 2", "where 01", "where 00", "where -1", "where 1000000000000",
                    "where 1 ", "where  1", "where 1\n", "where\n1", "bead", "bead 01", "bead 1 2", "bead x", "fewest",
                    "fewest x", "fewest 0", "fewest 0 x", "fewest x 0 1", "fewest x 00", "fewest x -1", "fewest X 0",
                    "fewest x 1000000000000", "then", "then ", "then 5", "then 5 ", "then lots", "then 05 lots",
                    "then -1 lots", "then 5  lots", "then 5 lots ", "then 5 lots x", "then 1000000000000 lots",
                    "then 5 then 6 lots", "then 5 by", "then 5 tellings", "then 5 in time", "then 5 worth 1",
                    "then 5 best 1 1", "then 5 pairs 0 1", "then 5 could 1", "then 5 rate rose round 1",
                    "then 5 at 5 aside 4", "then 5 rule 0 9 0 any", "then 5 where", "then 5 where 01", "by ", "by 1",
                    " by", "by\n", "tellings ", "tellings 5", "tellings\n", "in", "in  time", "in time ", "in time 5",
                    "in\ntime", "time", "intime"]:
            self.refused(desk, row, NoRow)
        for row in ["rule", "rule ", "rule 1 3 0", "rule 1 3 0 shades ", "rule 1 3 0  shades", "rule 01 3 0 shades",
                    "rule 5 3 0 any", "rule 1 3 0 none", "rule 1 3 0 shades\n", "rule 1 3 0 shades any",
                    "Rule 1 3 0 any", "rule 1 3 0 any\nrule 1 3 0 any", "rule 1 3 1000000000000 any", "rate",
                    "rate rose round", "rate rose 5", "rate rose round 5 6", "rate rose round 05", "rate rose round -5",
                    "rate rose round x", "rate Rose round 5", "rate rose abcdefghi 5", "rate  rose round 5",
                    "rate rose round 5 ", "rate rose round 5\n", "rate rose round 1000000000000",
                    "rate rose round 1/2", "at", "at ", "at 5", "at 5 ", "at aside 4", "at 05 aside 4", "at -5 aside 4",
                    "at 5 aside 04", "at 5  aside 4", "at 5 aside 4 ", "at 5 aside 4\n", "at 5 aside 0", "at 5 aside",
                    "at 5 aside 4 5", "at 1 string cd 7 7", "at 5 string v", "at 5 string v 1 2 3 4 5 6 7 8 9 10",
                    "at 1000000000000 aside 4", "at 5 buy v", "at 5 buy v\n", "at 5 buy v\n50 1/1 a b\n",
                    "at 5 buy v\n50 1/1 a b\n50 1/1 a b", "at 5 buy v\n50 1/1 a", "at 99 aside 4\nat 99 back 4",
                    "at 99 buy v\n50 1/1 a b\nat 99 aside 4", "aside 4", "buy v\n50 1/1 a b",
                    "at 5 buy v\n" + "\n".join([f"{number} 1/1 a b" for number in range(101, 142)]), "at 99 lots",
                    "at 99 by"]:
            self.refused(desk, row, NoRow)
        for word in ("worth", "best 3", "pairs 0", "could"):
            for rest in ["", " ", " 0", " 01", " 1 0", " 1 01", " 1 1", " 1 2 1", " 99 99", " 1  2", " 1 2 ", " x",
                         " 1 x", " -1", " 1,2", " 1\n", " 1\n2", " 1000000001", " 1 1000000001", " 1000000000000",
                         f" {SIXTY} 1", "\n1", " 1\nlots"]:
                self.refused(desk, word + rest, NoRow)
            self.refused(desk, f" {word} 1", NoRow)
            self.refused(desk, f"x {word} 1", NoRow)
        for row in ["best", "best 3", "best 0 1", "best 10 1 2", "best 03 1", "best x 1", "best -3 1", "best 3 3 4 3",
                    "best 3 1 2 3 4 5 6 7 8 9 10 11 12 13", "best 3\n1", "best  3 1", "pairs", "pairs 0", "pairs x 1",
                    "pairs 00 1", "pairs -1 1", "pairs 1000000000000 1", "could", f"could {forty_one}",
                    f"could 1\n{nine}", "could 1\nab 1 1 9 -\nab 1 1 9 -",
                    "could 1\nab 1 1 9 -\ncd 1 1 9 -\nab 2 1 9 -",
                    "could 1\nab 1 1 9", "could 1\nab 21 1 9 -", "could 1\nab 1 9 8 -", "could 1\n\nab 1 1 9 -",
                    "could 1\nab 1 1 9 -\n", "could 1\nab 01 1 9 -", "could 1 ab 1 1 9 -", "could\nab 1 1 9 -",
                    "could 1\nab 1 1 9 rose,rose", "could 1 \nab 1 1 9 -", "worth 1 2\nab 1 1 9 -"]:
            self.refused(desk, row, NoRow)

    def test_no_row_ahead_of_beads_that_are_not_there(self):
        desk = desk_of()
        for row in ("worth 99 99", "best 0 99", "best 10 99", "pairs x 99", "could 99\nab", "fewest v x",
                    "could 99\nab 1 1 9 -\nab 1 1 9 -"):
            self.refused(desk, row, NoRow)

    def test_rows_changed(self):
        """Each row with one sign put in, left out or exchanged is refused with NoRow just where it is none."""
        rows = ["rule 1 13 0 shades", "rate rose round 12", "at 99 aside 4", "at 10 string v 4 2",
                "at 0 buy v\n9 1/1 a b", "at 99 take x 10", "where 12", "bead 1", "lots", "strings", "aside", "sold",
                "lot ab", "string x", "moves", "fewest x 2", "then 30 where 2", "then 60 fewest x 2", "then 5 lots",
                "by", "tellings", "in time", "worth 1 2 13", "best 3 1 2", "pairs 0 1 3",
                "could 1 2\nab 1 1 9 -\nc 0 1 10 a,b"]
        desk = desk_of()
        told = desk_told(desk)
        seen = {True: 0, False: 0}
        for row in rows:
            for other in [row] + changed(row):
                is_row = is_row_text(other)
                seen[is_row] += 1
                if is_row and other.split(" ")[0] in ("rule", "rate", "at"):
                    self.assertNotEqual(outcome(desk_of(), other), ("NoRow", []), repr(other))
                else:
                    self.assertEqual(outcome(desk, other) != ("NoRow", []), is_row, repr(other))
            self.assertEqual(desk_told(desk), told, row)
        self.assertGreater(seen[True], 500)
        self.assertGreater(seen[False], 5000)


def places(words):
    return " ".join([str(word) for word in words])


def joined(things):
    """Names or numbers, a gap as a minus; a minus of none, or of None."""
    return places(["-" if thing is None else thing for thing in things or ["-"]])


def lined(lines):
    return "\n".join(lines or ["-"])


def plain_asked(stock, words):
    """What is asked of a stock, by what the stock and the functions tell."""
    word, rest = words[0], words[1:]
    if word in ("lots", "strings", "aside", "sold"):
        return joined(getattr(stock, word)())
    if word == "moves":
        return lined([f"{moved[0]} {places(moved[1])} > {places(moved[2])}" for moved in stock.moves()])
    if word == "lot":
        return joined(stock.of(rest[0]))
    if word == "string":
        return joined(stock.string(rest[0]))
    if word == "fewest":
        return joined(fewest(stock, rest[0], int(rest[1])))
    return places(stock.where(int(rest[0]))) if word == "where" else str(stock.bead(int(rest[0])))


def plain_answer(book, rates, row):
    """What a desk answers to a row that asks, by what the book, its stock and the functions tell."""
    words = row.split("\n")[0].split(" ")
    if words[0] == "then":
        return plain_asked(book.stock_at(int(words[1])), words[2:])
    if words[0] not in ("worth", "best", "pairs", "could"):
        told = {"by": show_rule(book.rule), "tellings": show_tellings(book.tellings()) or "-",
                "in time": show_tellings(book.in_time()) or "-"}
        return told[row] if row in told else plain_asked(book.stock(), words)
    numbers = [int(word) for word in words[1:]]
    if words[0] in ("best", "pairs"):
        number, numbers = numbers[0], numbers[1:]
    beads = [book.stock().bead(told) for told in numbers]
    if words[0] == "worth":
        return str(worth_of(beads, rates))
    if words[0] == "pairs":
        return lined([f"{one} {other}" for one, other in most_pairs(beads, number)])
    if words[0] == "best":
        found = best(beads, book.rule, number, rates)
        return "-" if found is None else f"{found[0]}: {joined([bead.number for bead in found[1]])}"
    found = could_be(beads, [read_lot(line) for line in row.split("\n")[1:]])
    return lined([f"{told} {joined(found[told])}" for told in numbers])


class ByChance(unittest.TestCase):
    def row_by_chance(self, chance):
        name, number = chance.choice(["x", "y", "ab", "cd"]), chance.choice([1, 2, 3, 4, 5, 11, 12, 13, 13, 14])
        some = " ".join([str(told) for told in chance.sample([1, 2, 3, 4, 5, 11, 12, 13, 14], chance.randrange(1, 9))])
        lots = [f"{told} {chance.randrange(5)} {chance.randrange(1, 7)} {chance.randrange(7, 10)} "
                f"{chance.choice(['-', 'rose', 'white', 'rose,white'])}" for told in "pqrst"[:chance.randrange(6)]]
        asked = chance.choice(["lots", "strings", "aside", "sold", "moves", f"where {number}", f"bead {number}",
                               f"lot {name}", f"string {name}", f"fewest {name} {chance.randrange(3)}"])
        return chance.choice([asked, asked, f"then {chance.randrange(30)} {asked}", "by", "tellings", "in time",
                              f"worth {some}", f"best {chance.randrange(1, 5)} {some}",
                              f"pairs {chance.randrange(4)} {some}", "\n".join([f"could {some}"] + lots)])

    def deed_by_chance(self, chance):
        word = chance.choice(["string", "take", "fill", "sell"] * 2 + ["string", "break", "aside", "back", "buy"])
        name, number = chance.choice(["x", "y"]), chance.choice([1, 2, 3, 4, 5, 11, 12, 13])
        if word == "buy":
            return (word, chance.choice(["ab", "ef"]), ((chance.randrange(14, 30), 5, 5, "rose", "round", False),))
        if word == "string":
            return (word, name, tuple(chance.sample([1, 2, 3, 4, 5, 11, 12, 13], chance.choice([1, 2, 3]))))
        return {"break": (word, name), "sell": (word, name), "take": (word, name, chance.randrange(3)),
                "fill": (word, name, chance.randrange(3), number), "aside": (word, number),
                "back": (word, number)}[word]

    def outcome_of(self, function, *things):
        try:
            return function(*things)
        except (PearlError, NoSuch, NoPlace, Elsewhere, Known) as error:
            return (type(error).__name__, fields_in(error))

    def test_held_against_book_stock_and_functions(self):
        seen = {}
        for turn in range(90):
            chance = random.Random(turn)
            rule = chance.choice([Rule(1, 3, 0, True), Rule(0, 9, 9, False), Rule(2, 9, 1, False)])
            desk, book, rates = desk_of([show_rule(rule)]), Book(rule), {}
            for text in (f"at 5 {AB}", f"at 5 {CD}", "at 8 string x 1 2 3", "at 9 take x 1"):
                desk.say(text)
                book.tell(*read_tellings(text)[0])
            for step in range(60):
                if chance.random() < 0.1:
                    pair = (chance.choice(["rose", "white"]), chance.choice(["round", "oval"]))
                    rates[pair] = chance.randrange(9)
                    self.assertEqual(desk.say(f"rate {pair[0]} {pair[1]} {rates[pair]}"), "ok")
                elif chance.random() < 0.4:
                    when, deed = chance.randrange(30), self.deed_by_chance(chance)
                    wanted = self.outcome_of(book.tell, when, deed)
                    if isinstance(wanted, list):
                        wanted = lined([f"{moved[0]} {places(moved[1])} > {places(moved[2])}" for moved in wanted])
                    row = f"at {when} {show_deed(deed)}"
                    self.assertEqual(outcome(desk, row), wanted, row)
                    seen[deed[0]] = seen.get(deed[0], 0) + isinstance(wanted, str)
                else:
                    row = self.row_by_chance(chance)
                    wanted = self.outcome_of(plain_answer, book, rates, row)
                    self.assertEqual(outcome(desk, row), wanted, row)
                    for word in row.split(" ")[:3]:
                        seen[word] = seen.get(word, 0) + isinstance(wanted, str)
        for word in ("buy", "string", "break", "sell", "take", "fill", "aside", "back", "lots", "strings", "sold",
                     "moves", "where", "bead", "lot", "fewest", "then", "by", "tellings", "in", "worth", "best",
                     "pairs", "could"):
            self.assertGreater(seen.get(word, 0), 2, (word, seen))

    def test_best_strings_are_let_by_and_worth_it(self):
        for turn in range(40):
            chance = random.Random(turn)
            rule = chance.choice([Rule(1, 3, 0, True), Rule(1, 5, 0, False), Rule(2, 9, 1, False)])
            rows = [f"{number} {chance.randrange(5, 10)}/{chance.randrange(1, 9)} rose round"
                    for number in range(1, 11)]
            desk = desk_of([show_rule(rule), "rate rose round 3", "\n".join(["at 0 buy ab"] + rows)])
            numbers = " ".join([str(number) for number in chance.sample(range(1, 11), 8)])
            for long in (1, 2, 3, 4, 5):
                answer = desk.say(f"best {long} {numbers}")
                if answer != "-":
                    worth, told = answer.split(": ")
                    self.assertEqual(desk.say(f"worth {told}"), worth)
                    self.assertEqual(len(told.split(" ")), long)
                    beads = [read_bead(desk.say(f"bead {word}")) for word in told.split(" ")]
                    self.assertIsNone(barred(beads, rule))


if __name__ == "__main__":
    unittest.main()
