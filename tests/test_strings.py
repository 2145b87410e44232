"""[4.3] and [4.4]: strings."""

import random
import unittest

from pearlrise.beads import Bead
from pearlrise.errors import NoPlace, NotLet
from pearlrise.rules import Rule, barred
from pearlrise.strings import String
from tests.things import fields_of, others

RULE = Rule(1, 3, 1)
LOW = Bead(1, 5, 6, "rose")
MIDDLE = Bead(2, 7, 9, "white", "oval", True)
HIGH = Bead(3, 6, 7, "rose")


def row(*across):
    """A row of beads of unlike numbers, so far across; None for a gap."""
    return [None if many is None else Bead(at + 1, many, 5, "rose") for at, many in enumerate(across)]


def rows():
    """Rows that RULE lets by: of none, one, odd and even numbers of places, forty, with and without gaps."""
    forty = list(range(1, 21)) + list(range(20, 0, -1))
    told = [(), (5,), (None,), (5, 6), (5, None), (None, None), (5, 7, 5), (5, 7, None), (None, 7, None),
            (5, 6, 6, 5), (None, 6, 6, 5), (5, None, 6, None), (5, 6, 9, 7, 5), (5, 6, None, 7, 5),
            (1, 2, 5, 5, 2, 1), forty, [None] * 40, [None if at % 3 == 0 else many for at, many in enumerate(forty)]]
    return [row(*across) for across in told]


def shown(string):
    """All that a string tells of its row and its rule."""
    return ([fields_of(bead) for bead in string.beads()], repr(string.rule))


class Made(unittest.TestCase):
    def same(self, told, wanted):
        """The very beads, and gaps, of a row."""
        self.assertIs(type(told), list)
        self.assertEqual(len(told), len(wanted))
        for one, other in zip(told, wanted):
            self.assertIs(one, other)

    def test_beads_gaps_and_rule(self):
        for beads in rows():
            string = String(beads, RULE)
            self.same(string.beads(), beads)
            self.assertIs(type(string.gaps()), list)
            self.assertEqual(string.gaps(), [at for at in range(len(beads)) if beads[at] is None])
            self.assertIs(string.rule, RULE)
            self.assertEqual(shown(string), shown(String(beads, RULE)))

    def test_gaps_as_written(self):
        self.assertEqual(String([], RULE).gaps(), [])
        self.assertEqual(String([None], RULE).gaps(), [0])
        self.assertEqual(String([LOW, MIDDLE, HIGH], RULE).gaps(), [])
        self.assertEqual(String([None, MIDDLE, None], RULE).gaps(), [0, 2])

    def test_by_names(self):
        string = String(rule=RULE, beads=[LOW, MIDDLE, None])
        self.same(string.beads(), [LOW, MIDDLE, None])
        self.same(string.filled(bead=HIGH, at=2).beads(), [LOW, MIDDLE, HIGH])
        self.same(string.emptied(at=0).beads(), [None, MIDDLE, None])

    def test_not_let(self):
        grey = Bead(4, 5, 6, "grey")
        for beads, at, why in [([LOW, LOW], 1, "twice"), ([LOW, None, LOW], 2, "twice"),
                               ([HIGH, LOW, None], 1, "step"), ([LOW, MIDDLE, Bead(4, 3, 5, "rose")], 2, "step"),
                               ([LOW, None, Bead(4, 7, 5, "rose")], 2, "match"), ([LOW, grey], 1, "shade"),
                               ([None, LOW, grey, None], 2, "shade")]:
            with self.assertRaises(NotLet) as caught:
                String(beads, RULE)
            self.assertIs(type(caught.exception), NotLet)
            self.assertEqual((caught.exception.at, caught.exception.why), (at, why))

    def test_not_let_just_where_barred(self):
        chance = random.Random(43)
        let = 0
        for turn in range(1500):
            rule = Rule(chance.randrange(2), chance.randrange(2, 4), chance.randrange(2), chance.random() < 0.5)
            beads = [None if chance.random() < 0.4 else Bead(chance.randrange(1, 20), chance.randrange(1, 5), 5,
                                                            chance.choice(["ab", "ab", "cd"]))
                     for at in range(chance.randrange(7))]
            found = barred(beads, rule)
            if found is None:
                let += 1
                self.same(String(beads, rule).beads(), beads)
                self.same(String(beads, rule).turned().beads(), beads[::-1])
            else:
                with self.assertRaises(NotLet) as caught:
                    String(beads, rule)
                self.assertEqual((caught.exception.at, caught.exception.why), found)
        self.assertGreater(let, 300)

    def test_the_list_handed_in_changed_behind(self):
        for beads in rows():
            handed = list(beads)
            string = String(handed, RULE)
            self.same(handed, beads)
            handed.append(LOW)
            handed[0] = None if handed[0] is not None else LOW
            handed.reverse()
            self.same(string.beads(), beads)
            handed.clear()
            self.same(string.beads(), beads)
            self.assertEqual(len(string), len(beads))

    def test_lists_told_changed_behind(self):
        for beads in rows():
            string = String(beads, RULE)
            was = shown(string)
            for told in (string.beads(), string.gaps(), string.turned().beads()):
                told.append(HIGH)
                told[0] = LOW
                told.reverse()
            string.beads().clear()
            string.gaps().clear()
            self.assertEqual(shown(string), was)
            self.same(string.beads(), beads)
            self.assertEqual(string.gaps(), [at for at in range(len(beads)) if beads[at] is None])
            self.assertIsNot(string.beads(), string.beads())


class Changed(unittest.TestCase):
    def no_place(self, at, ask):
        with self.assertRaises(NoPlace) as caught:
            ask()
        self.assertIs(type(caught.exception), NoPlace)
        self.assertEqual(caught.exception.at, at)

    def test_turned(self):
        for beads in rows():
            string = String(beads, RULE)
            was = shown(string)
            turned = string.turned()
            self.assertIs(type(turned), String)
            self.assertEqual(shown(turned), (was[0][::-1], was[1]))
            self.assertIs(turned.rule, RULE)
            self.assertEqual(shown(turned.turned()), was)
            self.assertEqual(shown(string), was)

    def test_filled_at_every_gap(self):
        for beads in rows():
            bare = [None] * len(beads)
            for at in range(len(beads)):
                string = String(bare, RULE)
                told = string.filled(at, HIGH)
                wanted = list(bare)
                wanted[at] = HIGH
                self.assertEqual(shown(told), shown(String(wanted, RULE)))
                self.assertEqual(told.gaps(), [gap for gap in range(len(beads)) if gap != at])
                self.assertEqual(string.beads(), bare)
                self.assertEqual(string.gaps(), list(range(len(beads))))

    def test_filled_beside_beads(self):
        string = String([LOW, None, HIGH], RULE)
        told = string.filled(1, MIDDLE)
        self.assertEqual(shown(told), shown(String([LOW, MIDDLE, HIGH], RULE)))
        self.assertEqual(string.gaps(), [1])
        self.assertEqual(told.gaps(), [])
        self.assertIs(told.beads()[1], MIDDLE)

    def test_filled_where_no_gap_is(self):
        for beads in rows():
            string = String(beads, RULE)
            was = shown(string)
            for at in range(-2, len(beads) + 2):
                if not 0 <= at < len(beads) or beads[at] is not None:
                    self.no_place(at, lambda: string.filled(at, Bead(99, 6, 6, "rose")))
            for at in (-len(beads) - 1, -len(beads), 10 ** 40, -10 ** 40):
                if at != 0:
                    self.no_place(at, lambda: string.filled(at, Bead(99, 6, 6, "rose")))
            self.assertEqual(shown(string), was)

    def test_no_place_ahead_of_not_let(self):
        string = String([LOW, None, HIGH], RULE)
        for at in (-3, -2, -1, 0, 2, 3, 4):
            self.no_place(at, lambda: string.filled(at, LOW))

    def test_filled_not_let(self):
        string = String([LOW, None, None, HIGH], RULE)
        was = shown(string)
        for at, bead, wanted in [(1, LOW, (1, "twice")), (1, HIGH, (3, "twice")), (1, Bead(9, 5, 5, "ab"), (1, "step")),
                                 (2, Bead(9, 5, 5, "ab"), (3, "step")), (2, Bead(9, 10, 5, "ab"), (3, "step"))]:
            with self.assertRaises(NotLet) as caught:
                string.filled(at, bead)
            self.assertIs(type(caught.exception), NotLet)
            self.assertEqual((caught.exception.at, caught.exception.why), wanted)
        half = string.filled(1, Bead(9, 7, 5, "ab"))
        for bead, wanted in [(Bead(8, 9, 5, "ab"), (2, "match")), (Bead(8, 8, 5, "cd"), (2, "shade"))]:
            with self.assertRaises(NotLet) as caught:
                half.filled(2, bead)
            self.assertEqual((caught.exception.at, caught.exception.why), wanted)
        self.assertEqual(shown(string), was)

    def test_emptied_at_every_place(self):
        for beads in rows():
            string = String(beads, RULE)
            was = shown(string)
            for at in range(-2, len(beads) + 2):
                if not 0 <= at < len(beads) or beads[at] is None:
                    self.no_place(at, lambda: string.emptied(at))
                else:
                    told = string.emptied(at)
                    wanted = list(beads)
                    wanted[at] = None
                    self.assertIs(type(told), String)
                    self.assertEqual(shown(told), shown(String(wanted, RULE)))
                    self.assertEqual(shown(told.filled(at, beads[at])), was)
            for at in (-len(beads), -len(beads) - 1, 10 ** 40, -10 ** 40):
                if at != 0:
                    self.no_place(at, lambda: string.emptied(at))
            self.assertEqual(shown(string), was)


class Compared(unittest.TestCase):
    def alike(self, one, other, wanted):
        for left, right in ((one, other), (other, one)):
            self.assertIs(left == right, wanted)
            self.assertIs(left != right, not wanted)

    def test_length(self):
        for beads in rows():
            self.assertEqual(len(String(beads, RULE)), len(beads))
            self.assertIs(bool(String(beads, RULE)), len(beads) > 0)
        self.assertFalse(String([], RULE))
        self.assertTrue(String([None], RULE))
        self.assertEqual(len(String([None, None, LOW], RULE)), 3)

    def test_from_either_end(self):
        for beads in rows():
            string = String(beads, RULE)
            self.alike(string, String(list(beads), Rule(1, 3, 1)), True)
            self.alike(string, String(beads[::-1], RULE), True)
            self.alike(string, string.turned(), True)
            self.alike(string, string, True)
        self.assertIn(String([HIGH, MIDDLE, LOW], RULE), [None, String([LOW, MIDDLE, HIGH], RULE)])

    def test_numbers_tell_nothing(self):
        for beads in rows():
            renumbered = [None if bead is None else Bead(bead.number + 500, *bead.row()[1:]) for bead in beads]
            self.alike(String(beads, RULE), String(renumbered, RULE), True)
            self.alike(String(beads, RULE), String(renumbered[::-1], RULE), True)

    def test_one_thing_otherwise_at_any_place(self):
        rule = Rule(0, 10, 10, False)
        for beads in rows():
            for at, bead in enumerate(beads):
                if bead is not None:
                    number, across, weight, shade, form, drilled = bead.row()
                    for other in [Bead(number, across, weight + 1, shade, form, drilled),
                                  Bead(number, across, weight, "grey", form, drilled),
                                  Bead(number, across, weight, shade, "oval", drilled),
                                  Bead(number, across, weight, shade, form, True), None]:
                        changed = list(beads)
                        changed[at] = other
                        self.alike(String(beads, rule), String(changed, rule), False)
                        self.alike(String(beads, rule), String(changed[::-1], rule), False)

    def test_across_alone(self):
        rule = Rule(0, 10, 10)
        one = String(row(5, 7, 6), rule)
        for across in [(4, 7, 6), (5, 8, 6), (5, 7, 5)]:
            self.alike(one, String(row(*across), rule), False)
        self.alike(one, String(row(6, 7, 5), rule), True)

    def test_neither_end_halfway(self):
        # Each place is like that of one end or the other, but no end is so for all of them.
        rule = Rule(0, 10, 10)
        self.alike(String(row(1, 3, 4, 2), rule), String(row(1, 4, 3, 2), rule), False)
        self.alike(String(row(1, 3, 4, 2), rule), String(row(2, 3, 4, 1), rule), False)

    def test_gaps(self):
        self.alike(String([], RULE), String([], RULE), True)
        self.alike(String([], RULE), String([None], RULE), False)
        self.alike(String([None], RULE), String([None, None], RULE), False)
        self.alike(String([LOW], RULE), String([LOW, None], RULE), False)
        self.alike(String([LOW], RULE), String([None], RULE), False)
        self.alike(String([LOW, None], RULE), String([None, LOW], RULE), True)
        self.alike(String([LOW, None, None], RULE), String([None, LOW, None], RULE), False)

    def test_another_rule(self):
        for beads in rows():
            string = String(beads, RULE)
            for rule in (Rule(0, 3, 1), Rule(1, 4, 1), Rule(1, 3, 2), Rule(1, 3, 1, False)):
                self.alike(string, String(beads, rule), False)

    def test_equals_nothing_else(self):
        for string in (String([], RULE), String([LOW, MIDDLE, HIGH], RULE), String([None], RULE)):
            for thing in [string.beads(), tuple(string.beads()), str(string), repr(string), RULE, LOW, len(string),
                          bool(string), (string.beads(), RULE)] + others():
                self.assertIs(string == thing, False)
                self.assertIs(string != thing, True)
                self.assertIs(thing == string, False)
                self.assertIs(thing != string, True)

    def test_str(self):
        self.assertEqual(str(String([], RULE)), "")
        self.assertEqual(str(String([None], RULE)), "-")
        self.assertEqual(str(String([LOW], RULE)), "1 5/6 rose round")
        self.assertEqual(str(String([LOW, MIDDLE, None], RULE)),
                         "1 5/6 rose round | 2 7/9 white oval drilled | -")
        self.assertEqual(str(String([None, MIDDLE, LOW], RULE)),
                         "- | 2 7/9 white oval drilled | 1 5/6 rose round")
        self.assertEqual(str(String([None] * 40, RULE)), " | ".join(["-"] * 40))

    def test_repr(self):
        self.assertEqual(repr(String([], Rule())), "String([], Rule(least=0, most=10, match=0, shades=True))")
        self.assertEqual(repr(String([LOW, None], RULE)),
                         "String([Bead(1, 5, 6, 'rose'), None], Rule(least=1, most=3, match=1, shades=True))")
        self.assertEqual(repr(String([None, MIDDLE, LOW], Rule(shades=False))),
                         "String([None, Bead(2, 7, 9, 'white', form='oval', drilled=True), Bead(1, 5, 6, 'rose')],"
                         " Rule(least=0, most=10, match=0, shades=False))")

    def test_the_methods_stand_in_the_class(self):
        for name in ("beads", "gaps", "turned", "filled", "emptied", "__len__", "__eq__", "__str__", "__repr__"):
            self.assertIn(name, vars(String))


if __name__ == "__main__":
    unittest.main()
