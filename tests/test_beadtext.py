"""[11.1], [11.2]: beads, shares, rules, Lots, strings and tags as texts."""

import random
import unittest

from pearlrise.beads import Bead
from pearlrise.beadtext import (read_bead, read_beads, read_lot, read_rule, read_share, read_string, read_tag,
                                show_beads, show_rule, tag)
from pearlrise.errors import BadText, NotLet, PearlError
from pearlrise.lots import Lot
from pearlrise.rules import Rule
from pearlrise.shares import Share
from pearlrise.strings import String
from tests.texts import (changed, is_bead_text, is_lot_text, is_rule_text, is_share_text, is_string_text,
                         is_tag_text)
from tests.things import fields_in, fields_of

RULE = Rule(least=1, most=3, match=1, shades=True)


class OneLine(unittest.TestCase):
    def bad(self, function, text):
        for turn in range(2):
            with self.assertRaises(BadText, msg=repr(text)) as caught:
                function(text)
            self.assertIs(type(caught.exception), BadText)
            self.assertEqual(caught.exception.line, 0, repr(text))
            self.assertIs(type(caught.exception.line), int)

    def held_against(self, function, shown, is_text, texts):
        """Each text is read just where it is one by the document, and written again the same."""
        seen = {True: 0, False: 0}
        for text in texts:
            for other in [text] + changed(text):
                seen[is_text(other)] += 1
                if is_text(other):
                    self.assertEqual(shown(function(other)), other, repr(other))
                else:
                    self.bad(function, other)
        self.assertGreater(seen[True], 10)
        self.assertGreater(seen[False], 100)

    def test_bad_text(self):
        self.assertTrue(issubclass(BadText, PearlError))

    def test_tags(self):
        for number, text in [(1, "0000000001"), (7, "0000000007"), (1000000000, "1000000000"),
                             (999999999, "0999999999"), (1234567, "0001234567"), (100, "0000000100")]:
            self.assertEqual(tag(number), text)
            self.assertEqual(tag(number=number), text)
            self.assertEqual(read_tag(text), number)
            self.assertEqual(read_tag(text=text), number)
            self.assertIs(type(read_tag(text)), int)
        for text in ["0000000000", "1000000001", "9999999999", "000000007", "00000000007", "7", "", " 000000007",
                     "000000007 ", "0000000007\n", "\n0000000007", "+000000007", "-000000007", "00000000 7",
                     "000000000a", "0000000_07", "000000007.", "0000 00007", "00000001000000000"]:
            self.bad(read_tag, text)
        self.held_against(read_tag, tag, is_tag_text, ["0000000007", "1000000000", "0123456789", "0999999999"])

    def test_shares(self):
        great, odd = 10 ** 80 - 1, 10 ** 79 + 1
        for share, text in [(Share(3, 4), "3/4"), (Share(-2), "-2"), (Share(0), "0"), (Share(5), "5"),
                            (Share(-1, 2), "-1/2"), (Share(great), "9" * 80), (Share(-great), "-" + "9" * 80),
                            (Share(1, great), "1/" + "9" * 80), (Share(odd, great - 1), None),
                            (Share(-odd, 10 ** 79), None), (Share(10 ** 79), None)]:
            text = str(share) if text is None else text
            self.assertEqual(str(share), text)
            for found in (read_share(text), read_share(text=text)):
                self.assertIs(type(found), Share)
                self.assertEqual((found.num, found.over), (share.num, share.over))
        for text in ["1" + "0" * 80, "-1" + "0" * 80, "1/1" + "0" * 80, "1" + "0" * 80 + "/3", "9" * 81 + "/2"]:
            self.bad(read_share, text)

    def test_what_is_no_share(self):
        for text in ["2/4", "6/3", "0/1", "0/2", "3/1", "-3/1", "3/0", "0/0", "-0", "-0/1", "-0/3", "+3", "--3", "- 3",
                     "3 ", " 3", "3\n", "\n3", "3/-4", "-3/-4", "3/+4", "03", "00", "3/04", "03/4", "3/4/5", "3//4",
                     "/", "/4", "3/", "-", "-/4", "", " ", "3 /4", "3/ 4", "3 4", "3.5", "1e3", "0x1", "3_0", "a",
                     "Share(3, 4)", "3/00", "10/5", "-4/6"]:
            self.bad(read_share, text)

    def test_shares_changed(self):
        self.held_against(read_share, str, is_share_text, ["3/4", "-25/7", "0", "-2", "120", "1/" + "9" * 80, "3/10"])

    def test_beads(self):
        for row, text in [((7, 12, 30, "rose", "oval", True), "7 12/30 rose oval drilled"),
                          ((7, 12, 30, "rose", "round", False), "7 12/30 rose round"),
                          ((1000000000, 1000000, 1000000, "abcdefgh", "zyxwvuts", True),
                           "1000000000 1000000/1000000 abcdefgh zyxwvuts drilled"),
                          ((1, 1, 1, "a", "z", False), "1 1/1 a z"),
                          ((5, 1, 1, "drilled", "drilled", True), "5 1/1 drilled drilled drilled"),
                          ((5, 1, 1, "drilled", "drilled", False), "5 1/1 drilled drilled"),
                          ((5, 1, 1, "round", "drilled", False), "5 1/1 round drilled")]:
            self.assertEqual(str(Bead(*row)), text)
            for found in (read_bead(text), read_bead(text=text)):
                self.assertIs(type(found), Bead)
                self.assertEqual(found.row(), row)
                self.assertIs(type(found.drilled), bool)

    def test_what_is_no_bead(self):
        for text in ["", "7", "7 12/30", "7 12/30 rose", "7 12/30 rose oval drilled drilled", "7 12/30 rose oval round",
                     "7 12/30 rose oval Drilled", "7 12/30 rose oval drill", "7 12 30 rose oval", "7 12/30/1 rose oval",
                     "7 12 /30 rose oval", "7 /30 rose oval", "7 12/ rose oval", "7 1230 rose oval",
                     "0 12/30 rose oval", "1000000001 12/30 rose oval", "7 0/30 rose oval", "7 12/0 rose oval",
                     "7 1000001/30 rose oval", "7 12/1000001 rose oval", "07 12/30 rose oval", "7 012/30 rose oval",
                     "7 12/030 rose oval", "7 12/30 Rose oval", "7 12/30 abcdefghi oval", "7 12/30 rose abcdefghi",
                     "7 12/30 ro-se oval", "7  12/30 rose oval", " 7 12/30 rose oval", "7 12/30 rose oval ",
                     "7 12/30 rose oval\n", "\n7 12/30 rose oval", "7 12/30 rose oval  drilled",
                     "7 12/30 rose oval drilled ", "-7 12/30 rose oval", "7 12/30 rose oval\n8 12/30 rose oval",
                     "7 12/30 rose  oval", "7 12/30  oval", "-", "999999999999 1/1 a b", "7 999999999999/1 a b",
                     "1000000000000 1/1 a b", "Bead(7, 12, 30, 'rose')"]:
            self.bad(read_bead, text)

    def test_beads_changed(self):
        self.held_against(lambda text: read_bead(text), str, is_bead_text,
                          ["7 12/30 rose oval drilled", "10 1000000/9 a abcdefgh", "1000000000 1/1 rose round"])

    def test_rules(self):
        great = 999999999999
        for rule, text in [(Rule(), "rule 0 10 0 shades"), (Rule(1, 3, 2, False), "rule 1 3 2 any"),
                           (Rule(5, 5, 0, True), "rule 5 5 0 shades"), (Rule(0, 0, 0, False), "rule 0 0 0 any"),
                           (Rule(great, great, great, True), "rule 999999999999 999999999999 999999999999 shades")]:
            self.assertEqual(show_rule(rule), text)
            self.assertEqual(show_rule(rule=rule), text)
            for found in (read_rule(text), read_rule(text=text)):
                self.assertIs(type(found), Rule)
                self.assertEqual(found, rule)
                self.assertIs(found.shades, rule.shades)

    def test_what_is_no_rule(self):
        for text in ["", "rule", "rule 0 10 0", "rule 0 10 shades", "0 10 0 shades", "rule 0 10 0 shades any",
                     "rule 0 10 0 0 shades", "rule 5 3 0 any", "rule 1 0 0 shades", "rule 0 10 0 Shades",
                     "rule 0 10 0 true", "rule 0 10 0 all", "rule 0 10 0 ", "Rule 0 10 0 any", "rules 0 10 0 any",
                     "rule 00 10 0 any", "rule 0 010 0 any", "rule 0 10 00 any", "rule -1 10 0 any", "rule 0 10 -1 any",
                     "rule 0 1000000000000 0 any", "rule 0 10 1000000000000 any", "rule  0 10 0 any",
                     "rule 0 10 0  any", " rule 0 10 0 any", "rule 0 10 0 any ", "rule 0 10 0 any\n",
                     "\nrule 0 10 0 any", "rule 0 10 0\nany", "rule a 10 0 any", "rule 0 10 0 any\nrule 0 10 0 any",
                     "rule 0 x 0 any", "rule 10 9 0 shades"]:
            self.bad(read_rule, text)

    def test_rules_changed(self):
        self.held_against(read_rule, show_rule, is_rule_text, ["rule 0 10 0 shades", "rule 12 345 6 any",
                                                               "rule 999999999999 999999999999 1 any"])

    def test_lots(self):
        for lot, text in [(Lot("ab", 3, 2, 1000000, ("rose", "white")), "ab 3 2 1000000 rose,white"),
                          (Lot("ab", 3), "ab 3 1 1000000 -"), (Lot("a", 0, 1, 1, ("b",)), "a 0 1 1 b"),
                          (Lot("abcdefgh", 20, 1000000, 1000000), "abcdefgh 20 1000000 1000000 -"),
                          (Lot("z", 20, 5, 9, ("white", "rose", "a")), "z 20 5 9 white,rose,a")]:
            self.assertEqual(str(lot), text)
            for found in (read_lot(text), read_lot(text=text)):
                self.assertIs(type(found), Lot)
                self.assertEqual(found, lot)
                self.assertEqual(found.shades, lot.shades)
                self.assertEqual(str(found), text)

    def test_what_is_no_lot(self):
        for text in ["", "ab", "ab 3 2 9", "ab 3 2 9 - -", "3 2 9 -", "ab 21 2 9 -", "ab 3 0 9 -", "ab 3 9 8 -",
                     "ab 3 2 1000001 -", "ab -1 2 9 -", "Ab 3 2 9 -", "abcdefghi 3 2 9 -", "ab 03 2 9 -", "ab 3 02 9 -",
                     "ab 3 2 09 -", "ab 3 2 9 rose,rose", "ab 3 2 9 rose,white,rose", "ab 3 2 9 rose,",
                     "ab 3 2 9 ,rose", "ab 3 2 9 rose,,white", "ab 3 2 9 rose, white", "ab 3 2 9 rose white",
                     "ab 3 2 9 ,", "ab 3 2 9 ", "ab 3 2 9", "ab 3 2 9 --", "ab 3 2 9 -,rose", "ab 3 2 9 rose,-",
                     "ab 3 2 9 Rose", "ab 3 2 9 abcdefghi", "ab 3 2 9 ()", "ab  3 2 9 -", " ab 3 2 9 -", "ab 3 2 9 - ",
                     "ab 3 2 9 -\n", "\nab 3 2 9 -", "ab 3 2 9 -\nab 3 2 9 -", "ab 3 2 9\n-", "- 3 2 9 -",
                     "ab x 2 9 -"]:
            self.bad(read_lot, text)

    def test_lots_changed(self):
        self.held_against(read_lot, str, is_lot_text,
                          ["ab 3 2 1000000 rose,white", "abcdefgh 20 1 10 -", "a 0 12 345 b"])


class Strings(unittest.TestCase):
    def bad(self, text, rule=RULE):
        with self.assertRaises(BadText, msg=repr(text)) as caught:
            read_string(text, rule)
        self.assertEqual(caught.exception.line, 0, repr(text))

    def test_read(self):
        one, two = Bead(7, 12, 30, "rose", "oval", True), Bead(8, 15, 40, "rose")
        three = Bead(9, 12, 31, "rose", "oval", True)
        for beads, text in [([one, two, three],
                            "7 12/30 rose oval drilled | 8 15/40 rose round | 9 12/31 rose oval drilled"),
                            ([one, None, three], "7 12/30 rose oval drilled | - | 9 12/31 rose oval drilled"),
                            ([None, None], "- | -"), ([None], "-"), ([two], "8 15/40 rose round"), ([], ""),
                            ([None, two, None], "- | 8 15/40 rose round | -")]:
            string = String(beads, RULE)
            self.assertEqual(str(string), text)
            for found in (read_string(text, RULE), read_string(rule=RULE, text=text)):
                self.assertIs(type(found), String)
                self.assertEqual(found, string)
                self.assertEqual(found.rule, RULE)
                self.assertEqual([fields_of(bead) for bead in found.beads()], [fields_of(bead) for bead in beads])
                self.assertEqual(str(found), text)

    def test_forty_places(self):
        beads = [None if at % 2 else Bead(at + 1, 5 + min(at, 39 - at), 1, "rose") for at in range(40)]
        text = str(String(beads, Rule(0, 10, 10, True)))
        self.assertEqual([fields_of(bead) for bead in read_string(text, Rule(0, 10, 10, True)).beads()],
                         [fields_of(bead) for bead in beads])

    def test_what_is_no_string(self):
        for text in [" ", "\n", "|", " | ", "- |", "| -", "-|-", "- |-", "-| -", "-  | -", "- |  -", "- | - ", " - | -",
                     "- | -\n", "\n- | -", "-\n|\n-", "- | - | ", " | -", "- | | -", "- || -", "--", "- -", "-\n-",
                     "- | x", "8 15/40 rose round |", "8 15/40 rose round | 8", "8 15/40 rose | -",
                     "8 15/40 rose round|-", "8 15/40 rose round -", "- | 08 15/40 rose round", "None", "- | None",
                     "8 15/40 rose round\n", "8 15/40 rose round\n9 15/40 rose round"]:
            self.bad(text)

    def test_not_let(self):
        def line(number, across, shade="rose"):
            return f"{number} {across}/30 {shade} round"

        for parts, at, why in [([line(7, 12), line(8, 20), line(9, 12)], 1, "step"),
                               ([line(7, 12), line(8, 14), line(7, 12)], 2, "twice"),
                               ([line(7, 12), line(8, 15)], 1, "match"),
                               ([line(7, 12), line(8, 12, "grey")], 1, "shade"),
                               ([line(7, 12), "-", line(9, 14)], 2, "match"),
                               (["-", line(8, 12), line(9, 12)], 2, "step")]:
            text = " | ".join(parts)
            for turn in range(2):
                with self.assertRaises(NotLet) as caught:
                    read_string(text, RULE)
                self.assertIs(type(caught.exception), NotLet)
                self.assertEqual(fields_in(caught.exception), [at, why])
            # What can't be read comes first.
            self.bad(text + " | x")
            self.bad(text + "\n")
        self.assertEqual(len(read_string(f"{line(7, 12)} | {line(8, 15)}", Rule(0, 10, 3))), 2)

    def test_changed(self):
        wide = Rule(0, 1000000, 1000000, False)
        for text in ["7 12/30 rose oval | - | 9 12/31 rose oval drilled", "- | 8 1/1 a b", "-"]:
            for other in [text] + changed(text):
                if not is_string_text(other):
                    self.bad(other, wide)
                else:
                    try:
                        self.assertEqual(str(read_string(other, wide)), other)
                    except NotLet as error:
                        self.assertIn(error.why, ("twice", "step"))


class Beads(unittest.TestCase):
    def bad(self, text, line):
        for turn in range(2):
            with self.assertRaises(BadText, msg=repr(text)) as caught:
                read_beads(text)
            self.assertIs(type(caught.exception), BadText)
            self.assertEqual(caught.exception.line, line, repr(text))

    def test_none(self):
        self.assertEqual(show_beads([]), "")
        self.assertEqual(read_beads(""), [])
        self.assertIs(type(read_beads("")), list)

    def test_some(self):
        one, two = Bead(7, 12, 30, "rose", "oval", True), Bead(8, 15, 40, "white")
        for beads, text in [([one], "7 12/30 rose oval drilled"),
                            ([one, two], "7 12/30 rose oval drilled\n8 15/40 white round"),
                            ([two, one, two], "8 15/40 white round\n7 12/30 rose oval drilled\n8 15/40 white round")]:
            kept = list(beads)
            self.assertEqual(show_beads(beads), text)
            self.assertEqual(show_beads(beads=beads), text)
            self.assertEqual(len(beads), len(kept))
            for found in (read_beads(text), read_beads(text=text)):
                self.assertIs(type(found), list)
                self.assertEqual([bead.row() for bead in found], [bead.row() for bead in beads])
                found.append("more")

    def test_many(self):
        chance = random.Random(5)
        beads = [Bead(chance.randrange(1, 1000000001), chance.randrange(1, 1000001), chance.randrange(1, 1000001),
                      chance.choice(["a", "abcdefgh"]), chance.choice(["round", "z"]), chance.random() < 0.5)
                 for at in range(200)]
        text = show_beads(beads)
        self.assertEqual([bead.row() for bead in read_beads(text)], [bead.row() for bead in beads])
        self.assertEqual(show_beads(read_beads(text)), text)

    def test_the_first_line_that_cant_be_read(self):
        good = "7 12/30 rose oval"
        self.bad("\n", 0)
        self.bad(" ", 0)
        self.bad("x", 0)
        self.bad(good + "\n", 1)
        self.bad("\n" + good, 0)
        self.bad(good + "\n\n" + good, 1)
        self.bad(good + " \n" + good, 0)
        self.bad(good + "\n " + good, 1)
        self.bad(good + "\n" + good + "\n" + good + "\n", 3)
        self.bad(good + "\n" + good + "\n0 12/30 rose oval\nx", 2)
        self.bad(good + "\n7 12/30 rose\n0 12/30 rose oval", 1)
        self.bad("-", 0)

    def test_changed(self):
        text = "7 12/30 rose oval drilled\n8 15/40 white round\n8 1/1 a b"
        for other in changed(text):
            lines = [] if other == "" else other.split("\n")
            wrong = [at for at, line in enumerate(lines) if not is_bead_text(line)]
            if wrong:
                self.bad(other, wrong[0])
            else:
                self.assertEqual(show_beads(read_beads(other)), other)


if __name__ == "__main__":
    unittest.main()
