"""[5.1] and [5.2]: the best string, and whether there is one."""

import itertools
import random
import time
import unittest

from pearlrise.beads import Bead
from pearlrise.best import best, can_make
from pearlrise.errors import BadRule, NoShare, NoSuch
from pearlrise.rules import Rule, barred
from pearlrise.shares import Share
from pearlrise.worths import worth_of
from tests.things import beads_rising, fields_of

RATES = {("rose", "round"): 3, ("rose", "oval"): 7, ("grey", "round"): 2, ("grey", "oval"): 0}
RULE = Rule(1, 3, 0)
SIX = [Bead(1, 5, 4, "rose"), Bead(2, 5, 6, "rose"), Bead(3, 7, 5, "rose"), Bead(4, 7, 2, "rose", drilled=True),
       Bead(5, 9, 3, "grey"), Bead(6, 7, 1, "rose")]


def plain_best(beads, rule, long, rates, base=1, drilled=2):
    """The greatest worth of all rows, tried one by one; None where none is let by."""
    found = None
    for row in itertools.permutations(beads, long):
        if barred(list(row), rule) is None:
            share = worth_of(row, rates, base, drilled)
            if found is None or found.is_below(share):
                found = share
    return found


def cases(seed, many):
    """Beads and rules by chance, of none to six beads."""
    chance = random.Random(seed)
    for turn in range(many):
        match = chance.choice([0, 0, 1, 2])
        least = match + chance.randrange(1, 3)
        rule = Rule(least, least + chance.randrange(5), match, chance.random() < 0.5)
        jitter = chance.randrange(match + 1)
        yield beads_rising(chance, turn % 7, apart=least + jitter, jitter=jitter, looks=chance.choice([1, 1, 2])), rule


class Best(unittest.TestCase):
    def holds(self, told, beads, rule, long, rates, base=1, drilled=2):
        """The row told is let by, has so many of the beads, each once, and the worth that is told."""
        self.assertIs(type(told), tuple)
        self.assertEqual(len(told), 2)
        share, row = told
        self.assertIs(type(share), Share)
        self.assertIs(type(row), list)
        self.assertEqual(len(row), long)
        for bead in row:
            self.assertTrue(any([bead is other for other in beads]))
        self.assertEqual(len({bead.number for bead in row}), long)
        self.assertIsNone(barred(row, rule))
        self.assertEqual(worth_of(row, rates, base, drilled), share)

    def held_against_all(self, beads, rule, long, rates, base=1, drilled=2):
        """best and can_make beside what all rows tell; whether there is a row."""
        wanted = plain_best(beads, rule, long, rates, base, drilled)
        told = best(beads, rule, long, rates, base, drilled)
        self.assertIs(can_make(beads, rule, long), wanted is not None)
        if wanted is None:
            self.assertIsNone(told)
            return False
        self.assertEqual(told[0], wanted)
        self.holds(told, beads, rule, long, rates, base, drilled)
        return True

    def test_as_written(self):
        self.assertEqual(best(SIX, RULE, 1, RATES), (Share(108), [SIX[1]]))
        told = best(SIX, RULE, 2, RATES)
        self.assertEqual(told[0], Share(156))
        self.assertEqual(sorted([bead.number for bead in told[1]]), [1, 2])
        told = best(SIX, RULE, 3, RATES)
        self.assertEqual(told[0], Share(231))
        self.assertEqual(told[1][1].number, 3)
        told = best(SIX, RULE, 5, RATES)
        self.assertEqual(told[0], Share(252))
        self.assertEqual([told[1][2].number, sorted([told[1][1].number, told[1][3].number])], [5, [3, 6]])
        self.assertIsNone(best(SIX, RULE, 6, RATES))

    def test_beside_all_rows(self):
        found = {}
        for beads, rule in cases(52, 700):
            for long in range(1, 10):
                there = self.held_against_all(beads, rule, long, RATES)
                found[(long, there)] = found.get((long, there), 0) + 1
        for long in range(1, 6):
            self.assertGreater(found[(long, True)], 4, long)
            self.assertGreater(found[(long, False)], 4, long)

    def test_beside_all_rows_of_six_places(self):
        chance = random.Random(6)
        there = 0
        for turn in range(12):
            across = [3, 3, 5, 5, 7, 7 + turn % 2]
            numbers = chance.sample(range(1, 30), 6)
            beads = [Bead(numbers[at], across[at], chance.randrange(1, 9), "rose", drilled=at // 2 == turn % 4)
                     for at in chance.sample(range(6), 6)]
            there += self.held_against_all(beads, Rule(2, 3, 1), 6, RATES)
        self.assertGreater(there, 6)

    def test_base_and_drilled_beside_all_rows(self):
        for beads, rule in cases(53, 42):
            for base, drilled in ((7, 3), (-1, 2), (3, -5)):
                for long in (1, 2, 3, 4):
                    self.held_against_all(beads, rule, long, RATES, base, drilled)

    def test_rates_of_nought(self):
        rates = {pair: 0 for pair in RATES}
        self.assertEqual(best(SIX, RULE, 3, rates)[0], Share(0))
        for beads, rule in cases(54, 21):
            for long in (1, 2, 3):
                self.held_against_all(beads, rule, long, rates)

    def test_shades(self):
        beads = [Bead(1, 5, 4, "rose"), Bead(2, 5, 6, "grey"), Bead(3, 7, 4, "rose", "oval"), Bead(4, 7, 4, "rose")]
        self.assertIsNone(best(beads, Rule(1, 3, 0), 2, RATES))
        self.assertIs(can_make(beads, Rule(1, 3, 0), 2), False)
        self.assertEqual(best(beads, Rule(1, 3, 0, False), 2, RATES)[0], Share(160))
        self.assertEqual(best(beads, Rule(1, 3, 0, False), 4, RATES)[0], Share(280))
        self.assertIs(can_make(beads, Rule(1, 3, 0, False), 4), True)
        drilled = [Bead(1, 5, 4, "rose"), Bead(2, 5, 4, "rose", drilled=True)]
        self.assertIsNone(best(drilled, Rule(1, 3, 0), 2, RATES))
        self.assertEqual(best(drilled, Rule(1, 3, 0, False), 2, RATES)[0], Share(72))

    def test_none_and_one(self):
        for long in range(1, 10):
            self.assertIsNone(best([], RULE, long, RATES))
            self.assertIs(can_make([], RULE, long), False)
            self.assertIs(best(SIX[:1], RULE, long, RATES) is None, long > 1)
            self.assertIs(can_make(SIX[:1], RULE, long), long == 1)

    def test_what_nothing_goes_on_is_no_row(self):
        # The greatest pair by worth has nothing within it, so a lesser one is told.
        beads = [Bead(1, 50, 90, "rose"), Bead(2, 50, 90, "rose"), Bead(3, 5, 1, "rose"), Bead(4, 5, 1, "rose"),
                 Bead(5, 6, 1, "rose")]
        told = best(beads, RULE, 3, RATES)
        self.assertEqual(told[0], Share(9))
        self.assertEqual([bead.number for bead in told[1]][1], 5)
        self.assertIsNone(best(beads, RULE, 4, RATES))

    def test_twelve_beads_and_nine_places(self):
        chance = random.Random(12)
        began = time.monotonic()
        for turn in range(4):
            weights = [[chance.randrange(1, 99) for side in range(2)] for step in range(6)]
            beads = [Bead(10 * step + side + 1, 5 + 2 * step, weights[step][side], "rose")
                     for step in range(6) for side in range(2)]
            chance.shuffle(beads)
            rule = Rule(2, [2, 4, 100, 6][turn], turn % 2)
            wanted = None
            for steps in itertools.combinations(range(6), 5):
                if all([2 * (inner - outer) <= rule.most for outer, inner in zip(steps, steps[1:])]):
                    share = sum([3 * weight * weight for step in steps[:4] for weight in weights[step]])
                    share += 3 * max(weights[steps[4]]) ** 2
                    wanted = share if wanted is None else max(wanted, share)
            told = best(beads, rule, 9, RATES)
            self.assertEqual(told[0], Share(wanted))
            self.holds(told, beads, rule, 9, RATES)
            self.assertIs(can_make(beads, rule, 9), True)
            self.assertIs(can_make(beads, Rule(3, 100), 9), False)
        self.assertLess(time.monotonic() - began, 20)

    def test_twelve_beads_of_which_all_pair(self):
        began = time.monotonic()
        beads = [Bead(at, 10 * at, at, "rose") for at in range(1, 13)]
        self.assertIsNone(best(beads, Rule(50, 100, 49), 9, RATES))
        beads = [Bead(at, 10 + at % 2, at, "rose") for at in range(1, 13)]
        self.assertEqual(best(beads, Rule(2, 9, 1), 2, RATES)[0], Share(3 * (144 + 121)))
        for long in range(3, 10):
            self.assertIsNone(best(beads, Rule(2, 9, 1), long, RATES))
        self.assertLess(time.monotonic() - began, 20)

    def test_great_rules(self):
        great = 10 ** 40
        self.assertIsNone(best(SIX, Rule(great, great, 0), 3, RATES))
        self.assertEqual(best(SIX, Rule(1, great, 0), 3, RATES)[0], Share(231))
        self.assertIs(can_make(SIX, Rule(great, great, great - 1, False), 2), True)

    def test_asked_again_and_changed_behind(self):
        for beads, rule in cases(55, 14):
            rates = dict(RATES)
            kept = list(beads)
            rows = [fields_of(bead) for bead in beads]
            for long in (1, 2, 3):
                told = best(beads, rule, long, rates)
                if told is not None:
                    numbers = [bead.number for bead in told[1]]
                    told[1].clear()
                    again = best(beads, rule, long, rates)
                    self.assertEqual([bead.number for bead in again[1]], numbers)
                    self.assertEqual(again[0], told[0])
                self.assertIs(can_make(beads, rule, long), told is not None)
            self.assertEqual(rates, RATES)
            self.assertEqual(len(beads), len(kept))
            for one, other in zip(beads, kept):
                self.assertIs(one, other)
            self.assertEqual([fields_of(bead) for bead in beads], rows)

    def test_by_places_by_names_left_out(self):
        beads = [Bead(1, 5, 4, "rose", drilled=True), Bead(2, 5, 6, "rose", drilled=True)]
        self.assertEqual(best(beads, RULE, 2, RATES)[0], Share(78))
        self.assertEqual(best(beads, RULE, 2, RATES, 5)[0], Share(78, 5))
        self.assertEqual(best(beads, RULE, 2, RATES, 5, 3)[0], Share(52, 5))
        self.assertEqual(best(beads, RULE, 2, RATES, base=5)[0], Share(78, 5))
        self.assertEqual(best(beads, RULE, 2, RATES, drilled=3)[0], Share(52))
        self.assertEqual(best(drilled=3, base=5, rates=RATES, long=2, rule=RULE, beads=beads)[0], Share(52, 5))
        self.assertIs(can_make(long=2, rule=RULE, beads=beads), True)


class Refused(unittest.TestCase):
    def test_least_not_above_match(self):
        for least, match in [(0, 0), (1, 1), (3, 5), (10 ** 40, 10 ** 40), (0, 10 ** 40)]:
            rule = Rule(least, 10 ** 41, match)
            for ask in (lambda: best(SIX, rule, 3, RATES), lambda: can_make(SIX, rule, 3),
                        lambda: best([], rule, 1, RATES), lambda: can_make([], rule, 1),
                        lambda: best(SIX, rule, 1, {}), lambda: best(SIX, rule, 3, RATES, 0)):
                with self.assertRaises(BadRule) as caught:
                    ask()
                self.assertIs(type(caught.exception), BadRule)
        self.assertIsNotNone(best(SIX, Rule(1, 3, 0), 3, RATES))
        self.assertIs(can_make(SIX, Rule(6, 9, 5), 2), True)

    def test_a_rate_that_lacks(self):
        lacks = [Bead(8, 90, 1, "white"), Bead(9, 95, 1, "ab", "cd")]
        for long in (1, 2, 3, 9):
            for beads, pair in [(SIX + lacks, ("white", "round")), (lacks[::-1] + SIX, ("ab", "cd")),
                                (SIX[:3] + lacks + SIX[3:], ("white", "round"))]:
                with self.assertRaises(NoSuch) as caught:
                    best(beads, RULE, long, RATES)
                self.assertEqual((caught.exception.kind, caught.exception.name), ("rate", pair))
                self.assertIs(type(caught.exception.name), tuple)
        self.assertIs(can_make(SIX + lacks, RULE, 3), True)
        self.assertIs(can_make(lacks, RULE, 1), True)

    def test_over_nought(self):
        for long in (1, 2, 9):
            for beads, base, drilled, num in [(SIX, 0, 2, 48), (SIX[2:], 0, 0, 75), (SIX, 1, 0, 12),
                                              (SIX[::-1], 5, 0, 12), (SIX[4:], 0, 1, 18)]:
                with self.assertRaises(NoShare) as caught:
                    best(beads, RULE, long, RATES, base, drilled)
                self.assertEqual(caught.exception.num, num)
        self.assertEqual(best(SIX[:3], RULE, 1, RATES, 1, 0)[0], Share(108))

    def test_the_first_in_the_order_of_the_list(self):
        lacks = Bead(8, 90, 1, "white")
        with self.assertRaises(NoSuch):
            best(SIX[:3] + [lacks] + SIX[3:], RULE, 3, RATES, 1, 0)
        with self.assertRaises(NoShare) as caught:
            best(SIX[:4] + [lacks] + SIX[4:], RULE, 3, RATES, 1, 0)
        self.assertEqual(caught.exception.num, 12)


if __name__ == "__main__":
    unittest.main()
