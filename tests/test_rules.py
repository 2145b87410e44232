"""[4.1] and [4.2]: rules, and the rows that they let by or bar."""

import itertools
import random
import unittest

from pearlrise.beads import Bead
from pearlrise.errors import BadRule
from pearlrise.rules import Rule, barred
from tests.things import no_truths, no_wholes, others

NAMES = ("least", "most", "match", "shades")
FORTY = 10 ** 39 + 7


def fields(rule):
    return (rule.least, rule.most, rule.match, rule.shades)


def row(*across):
    """A row of beads of unlike numbers, so far across; None for a gap."""
    return [None if many is None else Bead(at + 1, many, 5, "rose") for at, many in enumerate(across)]


def reason(beads, at, rule):
    """What [4.2] tells of one place, word by word."""
    n = len(beads)
    bead = beads[at]
    if bead.number in [other.number for other in beads[:at] if other is not None]:
        return "twice"
    ahead = beads[at - 1] if at >= 1 else None
    if ahead is not None and 2 * at != n:
        less = bead.across - ahead.across if 2 * at < n else ahead.across - bead.across
        if less < rule.least or less > rule.most:
            return "step"
    partner = beads[n - 1 - at] if 2 * at >= n else None
    if partner is not None:
        if not -rule.match <= bead.across - partner.across <= rule.match:
            return "match"
        if rule.shades and bead.row()[3:] != partner.row()[3:]:
            return "shade"
    return None


def first_barred(beads, rule):
    for at, bead in enumerate(beads):
        if bead is not None and reason(beads, at, rule) is not None:
            return (at, reason(beads, at, rule))
    return None


class Made(unittest.TestCase):
    def test_by_places(self):
        self.assertEqual(fields(Rule(1, 5, 2, False)), (1, 5, 2, False))
        self.assertEqual(fields(Rule(3, 3, 0, True)), (3, 3, 0, True))
        self.assertEqual(fields(Rule(0, 0, 0, False)), (0, 0, 0, False))

    def test_by_names(self):
        told = dict(zip(NAMES, (1, 5, 2, False)))
        for order in itertools.permutations(NAMES):
            self.assertEqual(fields(Rule(**{name: told[name] for name in order})), (1, 5, 2, False))

    def test_left_out(self):
        self.assertEqual(fields(Rule()), (0, 10, 0, True))
        self.assertIs(Rule().shades, True)
        self.assertEqual(fields(Rule(2)), (2, 10, 0, True))
        self.assertEqual(fields(Rule(2, 3)), (2, 3, 0, True))
        self.assertEqual(fields(Rule(2, 3, 4)), (2, 3, 4, True))
        self.assertEqual(fields(Rule(least=10)), (10, 10, 0, True))
        self.assertEqual(fields(Rule(most=0)), (0, 0, 0, True))
        self.assertEqual(fields(Rule(match=7)), (0, 10, 7, True))
        self.assertEqual(fields(Rule(shades=False)), (0, 10, 0, False))
        self.assertIs(Rule(shades=False).shades, False)

    def test_great_numbers(self):
        self.assertEqual(fields(Rule(FORTY, FORTY, FORTY)), (FORTY, FORTY, FORTY, True))
        self.assertEqual(fields(Rule(0, 10 ** 400, 10 ** 300)), (0, 10 ** 400, 10 ** 300, True))
        self.assertEqual(fields(Rule(match=10 ** 5000)), (0, 10, 10 ** 5000, True))

    def test_no_wholes(self):
        for thing in no_wholes() + [-1, -10, -FORTY]:
            for name in NAMES[:3]:
                told = {"least": 0, "most": 10 ** 50, "match": 0}
                told[name] = thing
                with self.assertRaises(BadRule, msg=f"{name}: {thing!r}") as caught:
                    Rule(**told)
                self.assertIs(type(caught.exception), BadRule)
                with self.assertRaises(BadRule, msg=f"{name}: {thing!r}"):
                    Rule(*told.values(), False)

    def test_no_truths(self):
        for thing in no_truths():
            with self.assertRaises(BadRule, msg=repr(thing)):
                Rule(shades=thing)
            with self.assertRaises(BadRule, msg=repr(thing)):
                Rule(1, 2, 3, thing)

    def test_most_below_least(self):
        for least, most in [(1, 0), (5, 4), (100, 1), (FORTY, FORTY - 1)]:
            with self.assertRaises(BadRule):
                Rule(least, most)
            with self.assertRaises(BadRule):
                Rule(most=most, least=least, match=5, shades=False)
        with self.assertRaises(BadRule):
            Rule(11)
        with self.assertRaises(BadRule):
            Rule(least=11)

    def test_all_wrong(self):
        for thing in others():
            with self.assertRaises(BadRule):
                Rule(thing, thing, thing, thing)


class Compared(unittest.TestCase):
    def test_equal_where_all_four_are(self):
        one = Rule(1, 5, 2, False)
        self.assertIs(one == Rule(1, 5, 2, False), True)
        self.assertIs(one != Rule(1, 5, 2, False), False)
        self.assertIs(Rule() == Rule(0, 10, 0, True), True)
        self.assertIs(Rule(FORTY, FORTY) == Rule(FORTY, FORTY), True)
        for other in [Rule(2, 5, 2, False), Rule(1, 6, 2, False), Rule(1, 5, 3, False), Rule(1, 5, 2, True),
                      Rule(2, 5, 1, False), Rule()]:
            self.assertIs(one == other, False)
            self.assertIs(one != other, True)
            self.assertIs(other == one, False)
        self.assertIs(Rule(0, FORTY) == Rule(0, FORTY + 1), False)

    def test_equals_nothing_else(self):
        rule = Rule(1, 5, 2, False)
        for thing in [(1, 5, 2, False), [1, 5, 2, False], repr(rule), 1, 0, True, Bead(1, 5, 2, "ab")] + others():
            self.assertIs(rule == thing, False)
            self.assertIs(rule != thing, True)
            self.assertIs(thing == rule, False)
            self.assertIs(thing != rule, True)
        self.assertIn(Rule(1, 5, 2, False), [None, rule])
        self.assertNotIn(Rule(1, 5, 2), [None, rule, (1, 5, 2, True)])

    def test_repr(self):
        self.assertEqual(repr(Rule()), "Rule(least=0, most=10, match=0, shades=True)")
        self.assertEqual(repr(Rule(1, 5, 2, False)), "Rule(least=1, most=5, match=2, shades=False)")
        self.assertEqual(repr([Rule(most=0)]), "[Rule(least=0, most=0, match=0, shades=True)]")

    def test_repr_of_great_ones(self):
        for great in (FORTY, 10 ** 39, 10 ** 40 - 1, 10 ** 60 - 1, 10 ** 60, 10 ** 120 + 10 ** 59, 7 * 10 ** 299 + 3):
            self.assertEqual(repr(Rule(great, great + 1, great)),
                             f"Rule(least={great}, most={great + 1}, match={great}, shades=True)")

    def test_repr_of_one_greater_than_python_shows(self):
        # Written by hand: Python's own str refuses a number of so many figures.
        self.assertEqual(repr(Rule(0, 7 * 10 ** 6000 + 12)),
                         "Rule(least=0, most=7" + "0" * 5998 + "12, match=0, shades=True)")


class Barred(unittest.TestCase):
    def test_no_places_and_one(self):
        for rule in (Rule(), Rule(5, 5, 0, True), Rule(0, 0, 0, False)):
            self.assertIsNone(barred([], rule))
            self.assertIsNone(barred([None], rule))
            self.assertIsNone(barred(row(7), rule))

    def test_let_by(self):
        rule = Rule(1, 3, 1)
        for across in [(5, 5), (5, 6), (5, 7, 5), (5, 6, 6, 5), (5, 6, 9, 7, 5), (1, 2, 5, 5, 2, 1),
                       (4, 5, 6, 7, 5, 4)]:
            self.assertIsNone(barred(row(*across), rule), across)

    def test_step_up_at_its_bounds(self):
        rule = Rule(2, 5, 100)
        for step, told in [(1, (1, "step")), (2, None), (3, None), (5, None), (6, (1, "step")), (0, (1, "step")),
                           (-2, (1, "step")), (-4, (1, "step"))]:
            self.assertEqual(barred(row(20, 20 + step, None), rule), told, step)
            self.assertEqual(barred(row(20, 20 + step, None, None), rule), told, step)
            self.assertEqual(barred(row(20, 20 + step, None, None, None), rule), told, step)

    def test_step_down_at_its_bounds(self):
        rule = Rule(2, 5, 100)
        for step, told in [(1, (2, "step")), (2, None), (3, None), (5, None), (6, (2, "step")), (0, (2, "step")),
                           (-2, (2, "step")), (-4, (2, "step"))]:
            self.assertEqual(barred(row(None, 20, 20 - step), rule), told, step)
        for step, told in [(1, (3, "step")), (2, None), (5, None), (6, (3, "step")), (-3, (3, "step"))]:
            self.assertEqual(barred(row(None, None, 20, 20 - step), rule), told, step)
            self.assertEqual(barred(row(None, None, 20, 20 - step, None), rule), told, step)

    def test_of_two_middle_ones_no_step_is_asked(self):
        rule = Rule(2, 5, 100)
        for step in (0, 1, 2, 6, 50, -1, -6, -50):
            self.assertIsNone(barred(row(60, 60 + step), rule))
            self.assertIsNone(barred(row(None, 60, 60 + step, None), rule))

    def test_the_middle_one_of_five(self):
        rule = Rule(2, 5, 0)
        self.assertIsNone(barred(row(1, 3, 6, 3, 1), rule))
        self.assertEqual(barred(row(1, 3, 4, 2, 1), rule), (2, "step"))
        self.assertEqual(barred(row(1, 3, 9, 4, 1), rule), (2, "step"))
        self.assertEqual(barred(row(1, 3, 6, 5, 1), rule), (3, "step"))
        self.assertEqual(barred(row(1, 3, 8, 2, 1), rule), (3, "step"))
        self.assertEqual(barred(row(1, 3, 6, 4, 1), rule), (3, "match"))
        beads = row(1, 3, 6, 3, 1)
        beads[2] = Bead(3, 6, 9, "grey", "oval", True)
        self.assertIsNone(barred(beads, rule))

    def test_least_nought_lets_alike_ones_by(self):
        self.assertIsNone(barred(row(5, 5, 5, 5), Rule()))
        self.assertEqual(barred(row(5, 5, 5, 5), Rule(1)), (1, "step"))
        self.assertEqual(barred(row(5, 4, 4, 5), Rule()), (1, "step"))
        self.assertIsNone(barred(row(5, 15, 15, 5), Rule()))
        self.assertEqual(barred(row(5, 16, 16, 5), Rule()), (1, "step"))

    def test_match_at_its_bound(self):
        for match in (0, 1, 4):
            rule = Rule(0, 100, match)
            for much, told in [(match, None), (match + 1, "match"), (-match, None), (-match - 1, "match")]:
                for ahead in (1, 3):
                    gaps = [None] * ahead
                    wanted = None if told is None else (ahead + 1, told)
                    self.assertEqual(barred(gaps + row(20, 20 + much) + gaps, rule), wanted)
                    outer = row(20) + [None] * ahead + [Bead(9, 20 + much, 5, "rose")]
                    self.assertEqual(barred(outer, rule), wanted)

    def test_shade_form_and_drilled(self):
        one = Bead(1, 5, 6, "rose")
        others_of_look = [Bead(2, 5, 6, "grey"), Bead(2, 5, 6, "rose", "oval"), Bead(2, 5, 6, "rose", drilled=True),
                          Bead(2, 5, 6, "grey", "oval", True)]
        for other in others_of_look:
            for beads in ([one, other], [other, one]):
                self.assertEqual(barred(beads, Rule()), (1, "shade"))
                self.assertIsNone(barred(beads, Rule(shades=False)))
            self.assertEqual(barred([one, None, other], Rule()), (2, "shade"))
            self.assertIsNone(barred([one, None, other], Rule(shades=False)))
            self.assertIsNone(barred([one, other, None], Rule()))
            self.assertIsNone(barred([None, one, None, other], Rule()))
        self.assertIsNone(barred([one, Bead(2, 5, 99, "rose")], Rule()))
        self.assertIsNone(barred([one, None, Bead(2, 5, 99, "rose")], Rule()))

    def test_twice(self):
        one = Bead(1, 5, 6, "rose")
        self.assertEqual(barred([one, one], Rule()), (1, "twice"))
        self.assertEqual(barred([one, None, one], Rule()), (2, "twice"))
        self.assertEqual(barred([one, None, None, Bead(1, 900, 7, "grey")], Rule()), (3, "twice"))
        self.assertEqual(barred([one, Bead(2, 6, 6, "rose"), one], Rule()), (2, "twice"))
        self.assertEqual(barred([one, Bead(2, 5, 6, "rose"), Bead(2, 5, 6, "rose"), one], Rule()), (2, "twice"))
        self.assertEqual(barred([one, Bead(2, 5, 6, "rose"), Bead(3, 5, 6, "rose"), one], Rule()), (3, "twice"))
        self.assertIsNone(barred([one, Bead(2, 5, 6, "rose")], Rule()))
        self.assertEqual(barred([None, one, None, None, None, None, None, one], Rule()), (7, "twice"))

    def test_first_reason_at_a_place(self):
        rule = Rule(1, 3, 1)
        ahead = [Bead(1, 5, 6, "rose"), Bead(2, 6, 6, "rose")]
        self.assertEqual(barred(ahead + [Bead(1, 90, 6, "grey")], rule), (2, "twice"))
        self.assertEqual(barred(ahead + [Bead(3, 90, 6, "grey")], rule), (2, "step"))
        self.assertEqual(barred([ahead[0], Bead(2, 8, 6, "rose"), Bead(3, 7, 6, "grey")], rule), (2, "match"))
        self.assertEqual(barred(ahead + [Bead(3, 5, 6, "grey")], rule), (2, "shade"))
        self.assertIsNone(barred(ahead + [Bead(3, 5, 6, "rose")], rule))
        self.assertEqual(barred([ahead[0], Bead(1, 90, 6, "rose"), None], rule), (1, "twice"))

    def test_first_place(self):
        rule = Rule(1, 3, 0)
        self.assertEqual(barred(row(5, 5, 9, 1, 7), rule), (1, "step"))
        self.assertEqual(barred(row(5, 6, 6, 3, 3), rule), (2, "step"))
        self.assertEqual(barred(row(5, 6, 7, 7, 7), rule), (3, "step"))
        self.assertEqual(barred(row(5, 6, 8, 5, 5), rule), (3, "match"))
        self.assertEqual(barred(row(5, 6, 7, 6, 6), rule), (4, "step"))
        self.assertEqual(barred(row(5, 6, 7, 6, 4), rule), (4, "match"))
        beads = row(5, 6, 7, 6, 5)
        beads[3] = Bead(4, 6, 5, "grey")
        beads[4] = beads[0]
        self.assertEqual(barred(beads, rule), (3, "shade"))

    def test_gaps_bar_nothing_beside_or_across(self):
        rule = Rule(1, 3, 0)
        for across in [(None,) * 5, (5, None, 90, None), (5, None, 90, None, 5), (None, 7, None, 7, None),
                       (90, None, 5, None), (None, 1, None, None), (None, None, None, 50), (50, None, None, None),
                       (None, 3, 5, None, 9), (9, None, 5, 3, None)]:
            self.assertIsNone(barred(row(*across), rule), across)
        self.assertEqual(barred(row(5, None, 90, None, 6), rule), (4, "match"))
        self.assertEqual(barred(row(None, 7, None, 8, None), rule), (3, "match"))
        self.assertEqual(barred(row(None, 7, 6, None, None), rule), (2, "step"))

    def test_forty_places(self):
        rule = Rule(1, 1)
        across = list(range(1, 21)) + list(range(20, 0, -1))
        self.assertIsNone(barred(row(*across), rule))
        for at in range(1, 40):
            if at != 20:
                worse = list(across)
                worse[at] += 40
                self.assertEqual(barred(row(*worse), rule), (at, "step"))
        beads = row(*across)
        for at in range(1, 40):
            twice = list(beads)
            twice[at] = Bead(1, across[at], 5, "rose")
            self.assertEqual(barred(twice, rule), (at, "twice"))
        for at in range(40):
            grey = list(beads)
            grey[at] = Bead(at + 1, across[at], 5, "grey")
            self.assertEqual(barred(grey, rule), (max(at, 39 - at), "shade"))
            self.assertIsNone(barred(grey, Rule(1, 1, 0, False)))
        self.assertIsNone(barred([None] * 40, rule))

    def test_great_rules(self):
        self.assertIsNone(barred(row(1, 1000000, 1), Rule(0, FORTY, FORTY)))
        self.assertEqual(barred(row(1, 1000000, 1), Rule(FORTY, FORTY, FORTY)), (1, "step"))

    def test_many_rows_as_told_word_by_word(self):
        chance = random.Random(4)
        told = {}
        for turn in range(6000):
            least = chance.randrange(3)
            rule = Rule(least, least + chance.randrange(4), chance.randrange(3), chance.random() < 0.5)
            beads = []
            for at in range(chance.randrange(8)):
                bead = Bead(chance.randrange(1, 30), chance.randrange(1, 5), chance.randrange(1, 3),
                            chance.choice(["ab", "ab", "ab", "cd"]), chance.choice(["round", "round", "oval"]),
                            chance.random() < 0.2)
                beads.append(None if chance.random() < 0.3 else bead)
            wanted = first_barred(beads, rule)
            self.assertEqual(barred(beads, rule), wanted, (beads, rule))
            why = wanted if wanted is None else wanted[1]
            told[why] = told.get(why, 0) + 1
        for why in (None, "twice", "step", "match", "shade"):
            self.assertGreater(told[why], 50, why)

    def test_tells_a_tuple(self):
        self.assertIs(type(barred(row(5, 6), Rule())), tuple)
        self.assertEqual(barred(rule=Rule(), beads=row(5, 6)), (1, "match"))
        self.assertIsNone(barred(row(5, 6), rule=Rule(match=1)))

    def test_the_list_and_its_beads_stay(self):
        for across in [(5, 6, None, 6, 5), (5, 9, 1, None), (None, None), ()]:
            beads = row(*across)
            kept = list(beads)
            rows = [bead and bead.row() for bead in beads]
            rule = Rule(1, 2, 3, False)
            told = barred(beads, rule)
            self.assertEqual(len(beads), len(kept))
            for at, bead in enumerate(kept):
                self.assertIs(beads[at], bead)
            self.assertEqual([bead and bead.row() for bead in beads], rows)
            self.assertEqual(fields(rule), (1, 2, 3, False))
            self.assertEqual(barred(beads, rule), told)


if __name__ == "__main__":
    unittest.main()
