"""[5.1] and [5.3] to [5.5]: papers that bar better strings."""

import random
import time
import unittest

from pearlrise.beads import Bead
from pearlrise.best import best
from pearlrise.bestpaper import bars_better, best_paper
from pearlrise.errors import BadRule, NoShare, NoSuch
from pearlrise.rules import Rule
from pearlrise.shares import Share
from pearlrise.worths import worth
from tests.things import beads_rising, fields_of, no_wholes

RATES = {("rose", "round"): 3, ("rose", "oval"): 7, ("grey", "round"): 2, ("grey", "oval"): 0}
RULE = Rule(1, 3, 0)
# Two pairs around one another, and two beads that may stand in the middle of the inner one.
SIX = [Bead(1, 5, 1, "rose"), Bead(2, 5, 2, "rose"), Bead(3, 7, 1, "rose"), Bead(4, 7, 1, "rose"),
       Bead(5, 9, 3, "grey"), Bead(6, 10, 1, "rose")]
FOUR_PLACES = [(1, 2, 0, Share(21)), (2, 1, 0, Share(21)),
               (1, 2, 1, Share(15)), (2, 1, 1, Share(15)), (3, 4, 1, Share(6)), (4, 3, 1, Share(6))]


def is_pair(left, right, rule):
    """Whether two beads may be partners, word by word."""
    if left.number == right.number or not -rule.match <= left.across - right.across <= rule.match:
        return False
    return rule.shades is False or left.row()[3:] == right.row()[3:]


def next_to(bead, outer, rule):
    return rule.least <= bead.across - outer.across <= rule.most


def gone_on(left, right, out, beads, rule, long, worths, shares):
    """The shares by which a pair is gone on, word by word; shares are those of rows, by (left, right, out)."""
    if out + 1 < long // 2:
        return [shares[(one.number, other.number, out + 1)] for one in beads for other in beads
                if is_pair(one, other, rule) and next_to(one, left, rule) and next_to(other, right, rule)
                and (one.number, other.number, out + 1) in shares]
    if long % 2 == 0:
        return [Share(0)]
    return [worths[bead.number] for bead in beads if next_to(bead, left, rule) and next_to(bead, right, rule)]


def greatest(shares):
    found = shares[0]
    for share in shares[1:]:
        found = share if found.is_below(share) else found
    return found


def paper_told(beads, rule, long, worths):
    """The paper of [5.4], word by word."""
    shares = {}
    for out in range(long // 2 - 1, -1, -1):
        for left in beads:
            for right in beads:
                if is_pair(left, right, rule):
                    going = gone_on(left, right, out, beads, rule, long, worths, shares)
                    if going:
                        both = worths[left.number].plus(worths[right.number])
                        shares[(left.number, right.number, out)] = both.plus(greatest(going))
    keys = sorted(shares, key=lambda key: (key[2], key[0], key[1]))
    return [(left, right, out, shares[(left, right, out)]) for left, right, out in keys]


def bars_told(beads, rule, long, worths, most, paper):
    """Whether a list of tuples (number, number, whole number, Share) bars better, word by word."""
    by_number = {bead.number: bead for bead in beads}
    shares = {}
    for left, right, out, share in paper:
        if left not in by_number or right not in by_number or not 0 <= out < long // 2:
            return False
        if not is_pair(by_number[left], by_number[right], rule) or (left, right, out) in shares:
            return False
        shares[(left, right, out)] = share
    for out in range(long // 2):
        for left in beads:
            for right in beads:
                if is_pair(left, right, rule):
                    for going in gone_on(left, right, out, beads, rule, long, worths, shares):
                        has = shares.get((left.number, right.number, out))
                        wanted = worths[left.number].plus(worths[right.number]).plus(going)
                        if has is None or has.is_below(wanted):
                            return False
    if long == 1 and any([most.is_below(worths[bead.number]) for bead in beads]):
        return False
    return not any([out == 0 and most.is_below(share) for left, right, out, share in paper])


def worths_of(beads, base=1, drilled=2):
    return {bead.number: worth(bead, RATES, base, drilled) for bead in beads}


def cases(seed, many):
    """Beads, rules and lengths by chance."""
    chance = random.Random(seed)
    for turn in range(many):
        match = chance.choice([0, 0, 1, 2])
        least = match + chance.randrange(1, 3)
        rule = Rule(least, least + chance.randrange(5), match, chance.random() < 0.5)
        jitter = chance.randrange(match + 1)
        beads = beads_rising(chance, chance.randrange(9), least + jitter, jitter, chance.choice([1, 1, 2]))
        yield beads, rule, chance.randrange(1, 8)


class Paper(unittest.TestCase):
    def test_as_written(self):
        self.assertEqual(best_paper(SIX, RULE, 2, RATES),
                         [(1, 2, 0, Share(15)), (2, 1, 0, Share(15)), (3, 4, 0, Share(6)), (4, 3, 0, Share(6))])
        self.assertEqual(best_paper(SIX, RULE, 3, RATES),
                         [(1, 2, 0, Share(18)), (2, 1, 0, Share(18)), (3, 4, 0, Share(24)), (4, 3, 0, Share(24))])
        self.assertEqual(best_paper(SIX, RULE, 4, RATES), FOUR_PLACES)
        self.assertEqual(best_paper(SIX, RULE, 5, RATES),
                         [(1, 2, 0, Share(39)), (2, 1, 0, Share(39)),
                          (1, 2, 1, Share(18)), (2, 1, 1, Share(18)), (3, 4, 1, Share(24)), (4, 3, 1, Share(24))])
        self.assertEqual(best_paper(SIX, RULE, 6, RATES),
                         [(1, 2, 1, Share(21)), (2, 1, 1, Share(21)),
                          (1, 2, 2, Share(15)), (2, 1, 2, Share(15)), (3, 4, 2, Share(6)), (4, 3, 2, Share(6))])

    def test_one_place(self):
        self.assertEqual(best_paper(SIX, RULE, 1, RATES), [])
        self.assertEqual(best_paper([], RULE, 1, RATES), [])

    def test_no_beads(self):
        for long in range(1, 10):
            self.assertEqual(best_paper([], RULE, long, RATES), [])

    def test_a_middle_next_to_both(self):
        beads = [Bead(1, 5, 1, "rose"), Bead(2, 6, 1, "rose"), Bead(3, 9, 1, "rose"), Bead(4, 7, 9, "grey"),
                 Bead(5, 10, 9, "grey")]
        self.assertEqual(best_paper(beads, Rule(2, 4, 1), 3, RATES), [(1, 2, 0, Share(9)), (2, 1, 0, Share(9))])
        self.assertEqual(best_paper(beads[:2] + beads[3:], Rule(2, 4, 1), 3, RATES), [])

    def test_many_as_told_word_by_word(self):
        empty = 0
        for beads, rule, long in cases(54, 400):
            told = best_paper(beads, rule, long, RATES)
            self.assertEqual(told, paper_told(beads, rule, long, worths_of(beads)))
            empty += told == []
            self.assertIs(type(told), list)
            for row in told:
                self.assertEqual([type(part) for part in row], [int, int, int, Share])
                self.assertIs(type(row), tuple)
        self.assertLess(empty, 250)

    def test_base_and_drilled_word_by_word(self):
        for beads, rule, long in cases(55, 60):
            for base, drilled in ((7, 3), (-1, 2), (3, -5)):
                self.assertEqual(best_paper(beads, rule, long, RATES, base, drilled),
                                 paper_told(beads, rule, long, worths_of(beads, base, drilled)))

    def test_the_greatest_of_out_0_is_best(self):
        found = 0
        for beads, rule, long in cases(56, 300):
            if long > 1:
                shares = [row[3] for row in best_paper(beads, rule, long, RATES) if row[2] == 0]
                told = best(beads, rule, long, RATES)
                found += told is not None
                self.assertEqual(told is None, shares == [])
                if shares:
                    self.assertEqual(greatest(shares), told[0])
        self.assertGreater(found, 40)

    def test_by_places_by_names_left_out(self):
        beads = [Bead(1, 5, 4, "rose", drilled=True), Bead(2, 5, 6, "rose", drilled=True)]
        for told, share in [(best_paper(beads, RULE, 2, RATES), Share(78)),
                            (best_paper(beads, RULE, 2, RATES, 5), Share(78, 5)),
                            (best_paper(beads, RULE, 2, RATES, 5, 3), Share(52, 5)),
                            (best_paper(beads, RULE, 2, RATES, base=5), Share(78, 5)),
                            (best_paper(beads, RULE, 2, RATES, drilled=3), Share(52)),
                            (best_paper(drilled=3, base=5, rates=RATES, long=2, rule=RULE, beads=beads),
                             Share(52, 5))]:
            self.assertEqual(told, [(1, 2, 0, share), (2, 1, 0, share)])

    def test_asked_again_and_changed_behind(self):
        beads, rates = list(SIX), dict(RATES)
        told = best_paper(beads, RULE, 4, rates)
        told.reverse()
        told.pop()
        self.assertEqual(best_paper(beads, RULE, 4, rates), FOUR_PLACES)
        self.assertEqual(rates, RATES)
        self.assertEqual([fields_of(bead) for bead in beads], [fields_of(bead) for bead in SIX])

    def test_twelve_beads_and_nine_places(self):
        began = time.monotonic()
        beads = [Bead(at, 5 + 2 * ((at - 1) // 2), at, "rose") for at in range(12, 0, -1)]
        for rule in (Rule(2, 4), Rule(2, 100, 1)):
            told = best_paper(beads, rule, 9, RATES)
            self.assertEqual(told, paper_told(beads, rule, 9, worths_of(beads)))
            share = best(beads, rule, 9, RATES)[0]
            self.assertEqual(share, greatest([row[3] for row in told if row[2] == 0]))
            self.assertIs(bars_better(beads, rule, 9, RATES, share, told), True)
            self.assertIs(bars_better(beads, rule, 9, RATES, share.minus(Share(1)), told), False)
        self.assertLess(time.monotonic() - began, 20)


class Bars(unittest.TestCase):
    def bars(self, paper, wanted, long=4, most=Share(21)):
        """Of SIX and RULE, whether a paper bars better."""
        self.assertIs(bars_better(SIX, RULE, long, RATES, most, paper), wanted, paper)

    def test_the_paper_told(self):
        found = 0
        for beads, rule, long in cases(57, 300):
            paper = best_paper(beads, rule, long, RATES)
            told = best(beads, rule, long, RATES)
            if told is None:
                for most in (Share(0), Share(-10 ** 40), Share(-1, 3), Share(5)):
                    self.assertIs(bars_better(beads, rule, long, RATES, most, paper), True)
            else:
                found += 1
                for more in (Share(0), Share(1), Share(1, 10 ** 30), Share(10 ** 40)):
                    self.assertIs(bars_better(beads, rule, long, RATES, told[0].plus(more), paper), True)
                    if more.num > 0:
                        self.assertIs(bars_better(beads, rule, long, RATES, told[0].minus(more), paper), False)
        self.assertGreater(found, 60)

    def test_rows_in_another_order(self):
        self.bars(list(FOUR_PLACES), True)
        self.bars(FOUR_PLACES[::-1], True)
        chance = random.Random(5)
        for turn in range(10):
            self.bars(chance.sample(FOUR_PLACES, 6), True)

    def test_a_row_left_out_or_told_twice(self):
        for at, row in enumerate(FOUR_PLACES):
            self.bars(FOUR_PLACES[:at] + FOUR_PLACES[at + 1:], False)
            self.bars(FOUR_PLACES + [row], False)
            self.bars([row] + FOUR_PLACES, False)
            self.bars(FOUR_PLACES + [row[:3] + (Share(1000),)], False)
        self.bars([], False)

    def test_a_share_less(self):
        for at, row in enumerate(FOUR_PLACES):
            for less in (Share(1), Share(1, 10 ** 30), Share(100)):
                self.bars(FOUR_PLACES[:at] + [row[:3] + (row[3].minus(less),)] + FOUR_PLACES[at + 1:], False)

    def test_a_share_more(self):
        more = [row[:3] + (row[3].plus(Share(1, 2)),) for row in FOUR_PLACES]
        for at in (0, 1):
            self.bars(FOUR_PLACES[:at] + [more[at]] + FOUR_PLACES[at + 1:], False)
            self.bars(FOUR_PLACES[:at] + [more[at]] + FOUR_PLACES[at + 1:], True, most=Share(43, 2))
        # The pairs of 1 and 2 stand next to no pair further out, so that more is no harm there.
        self.bars(FOUR_PLACES[:2] + more[2:4] + FOUR_PLACES[4:], True)
        self.bars(FOUR_PLACES[:4] + more[4:], False)
        self.bars(FOUR_PLACES[:4] + more[4:], False, most=Share(1000))
        self.bars(more[:2] + FOUR_PLACES[2:4] + more[4:], True, most=Share(1000))
        self.bars(more, True, most=Share(43, 2))
        self.bars(more, False)

    def test_rows_that_need_not_be(self):
        # A pair that isn't gone on may have a row; but then what may stand around it has to have one, too.
        beads = SIX[:4]
        paper = best_paper(beads, RULE, 3, RATES)
        self.assertEqual(paper, [(1, 2, 0, Share(18)), (2, 1, 0, Share(18))])
        for share in (Share(-9), Share(0), Share(18)):
            self.assertIs(bars_better(beads, RULE, 3, RATES, Share(18), paper + [(3, 4, 0, share)]), True)
        self.assertIs(bars_better(beads, RULE, 3, RATES, Share(18), paper + [(3, 4, 0, Share(19))]), False)
        inner = [(1, 2, 1, Share(18)), (2, 1, 1, Share(18))]
        self.assertEqual(best_paper(beads, RULE, 5, RATES), inner)
        self.assertIs(bars_better(beads, RULE, 5, RATES, Share(0), inner), True)
        self.assertIs(bars_better(beads, RULE, 5, RATES, Share(99), inner + [(3, 4, 1, Share(-50))]), False)
        outer = [(1, 2, 0, Share(-35)), (2, 1, 0, Share(-35))]
        for extra in ((3, 4, 1, Share(-50)), (4, 3, 1, Share(-50))):
            paper = inner + [extra]
            self.assertIs(bars_better(beads, RULE, 5, RATES, Share(-35), paper + outer), True)
            self.assertIs(bars_better(beads, RULE, 5, RATES, Share(-36), paper + outer), False)
            self.assertIs(bars_better(beads, RULE, 5, RATES, Share(-35), paper + outer[:1]), False)
            self.assertIs(bars_better(beads, RULE, 5, RATES, Share(-35), paper + outer[1:]), False)

    def test_no_pair_and_no_out(self):
        for left, right, out in [(1, 3, 0), (3, 1, 1), (1, 1, 0), (5, 6, 1), (1, 99, 0), (99, 1, 1), (0, 1, 0),
                                 (-1, 2, 0), (10 ** 40, 2, 0), (3, 4, 2), (3, 4, -1), (1, 2, 2), (3, 4, -2),
                                 (3, 4, 10 ** 40), (1, 2, 3)]:
            self.bars(FOUR_PLACES + [(left, right, out, Share(0))], False)
            self.bars([(left, right, out, Share(0))] + FOUR_PLACES, False)
        for at, (left, right, out, share) in enumerate(FOUR_PLACES):
            for other in (out - 2, out + 2, -1 - out):
                self.bars(FOUR_PLACES[:at] + [(left, right, other, share)] + FOUR_PLACES[at + 1:], False)
        self.bars(FOUR_PLACES + [(3, 4, 0, Share(0))], True)
        self.bars(FOUR_PLACES + [(4, 3, 0, Share(21)), (3, 4, 0, Share(-5))], True)

    def test_left_and_right_exchanged(self):
        for at, (left, right, out, share) in enumerate(FOUR_PLACES):
            self.bars(FOUR_PLACES[:at] + [(right, left, out, share)] + FOUR_PLACES[at + 1:], False)
        self.bars([(right, left, out, share) for left, right, out, share in FOUR_PLACES], True)

    def test_pairs_by_look_and_match(self):
        beads = [Bead(1, 5, 1, "rose"), Bead(2, 6, 2, "grey")]
        paper = [(1, 2, 0, Share(11)), (2, 1, 0, Share(11))]
        self.assertIs(bars_better(beads, Rule(2, 3, 1, False), 2, RATES, Share(11), paper), True)
        self.assertIs(bars_better(beads, Rule(2, 3, 1, False), 2, RATES, Share(11), []), False)
        self.assertIs(bars_better(beads, Rule(2, 3, 1, True), 2, RATES, Share(11), paper), False)
        self.assertIs(bars_better(beads, Rule(2, 3, 1, True), 2, RATES, Share(0), []), True)
        self.assertIs(bars_better(beads, Rule(2, 3, 0, False), 2, RATES, Share(11), paper), False)
        self.assertIs(bars_better(beads, Rule(2, 3, 0, False), 2, RATES, Share(0), []), True)

    def test_rows_of_another_form(self):
        for at, row in enumerate(FOUR_PLACES):
            left, right, out, share = row
            for thing in [list(row), row[:3], row + (0,), row + (share,), (), row[:2], (row,), [row], str(row),
                          (left, right, out), (left, right, share, out), (share, left, right, out), left, share,
                          (str(left), right, out, share), (left, str(right), out, share),
                          (left, right, str(out), share), (left, right, bool(out), share),
                          (float(left), right, out, share), (left, float(right), out, share),
                          (left, right, float(out), share), (left, right, out, share.num),
                          (left, right, out, str(share)), (left, right, out, (share.num, 1)),
                          (SIX[left - 1], right, out, share), (left, right, out, None)]:
                self.bars(FOUR_PLACES[:at] + [thing] + FOUR_PLACES[at + 1:], False)
        for thing in no_wholes() + [0, 1]:
            self.bars(FOUR_PLACES + [thing], False)
        for thing in no_wholes():
            for at in range(4):
                row = list(FOUR_PLACES[0])
                row[at] = thing
                self.bars([tuple(row)] + FOUR_PLACES[1:], False)

    def test_truths_for_numbers(self):
        for row in [(True, 2, 0, Share(21)), (1, 2, False, Share(21))]:
            self.bars([row] + FOUR_PLACES[1:], False)
        self.bars(FOUR_PLACES[:1] + [(2, True, 0, Share(21))] + FOUR_PLACES[2:], False)
        self.bars(FOUR_PLACES[:2] + [(1, 2, True, Share(15))] + FOUR_PLACES[3:], False)

    def test_no_list(self):
        by_place = dict(enumerate(FOUR_PLACES))
        for thing in no_wholes() + [0, 1, tuple(FOUR_PLACES), str(FOUR_PLACES), by_place]:
            if not isinstance(thing, list):
                self.bars(thing, False)
                self.bars(thing, False, long=1, most=Share(1000))
                self.bars(thing, False, long=9)
                self.assertIs(bars_better([], RULE, 3, RATES, Share(0), thing), False)
        self.bars([FOUR_PLACES], False)
        self.assertIs(bars_better([], RULE, 3, RATES, Share(0), []), True)

    def test_one_place(self):
        self.bars([], True, long=1, most=Share(18))
        self.bars([], True, long=1, most=Share(1000))
        self.bars([], False, long=1, most=Share(53, 3))
        self.bars([], False, long=1, most=Share(-1))
        for row in FOUR_PLACES[:4:2]:
            self.bars([row], False, long=1, most=Share(1000))
        self.assertIs(bars_better([], RULE, 1, RATES, Share(-5), []), True)
        self.assertIs(bars_better(SIX, RULE, 1, RATES, Share(-18), [], base=-1), False)
        self.assertIs(bars_better(SIX, RULE, 1, RATES, Share(-3), [], base=-1), True)

    def test_a_bead_worth_more_is_no_harm_with_more_places(self):
        beads = SIX + [Bead(7, 900, 900, "rose")]
        self.assertIs(bars_better(beads, RULE, 4, RATES, Share(21), list(FOUR_PLACES)), True)

    def test_many_changed_as_told_word_by_word(self):
        chance = random.Random(58)
        told = {True: 0, False: 0}
        for beads, rule, long in cases(58, 700):
            worths = worths_of(beads)
            paper = best_paper(beads, rule, long, RATES)
            shares = [row[3] for row in paper if row[2] == 0] or [Share(0)]
            most = greatest(shares).plus(Share(chance.choice([0, 0, 0, 5, -1])))
            for turn in range(chance.randrange(4)):
                at = chance.randrange(len(paper) + 1)
                change = chance.randrange(5)
                if change == 0 and beads:
                    numbers = [bead.number for bead in beads]
                    paper.insert(at, (chance.choice(numbers), chance.choice(numbers), chance.randrange(3),
                                      Share(chance.randrange(40))))
                elif at < len(paper):
                    left, right, out, share = paper[at]
                    if change == 1:
                        del paper[at]
                    else:
                        paper[at] = (left, right, out, share.plus(Share(chance.choice([-1, 1, 1, 5]))))
            wanted = bars_told(beads, rule, long, worths, most, paper)
            self.assertIs(bars_better(beads, rule, long, RATES, most, paper), wanted)
            told[wanted] += 1
            if wanted:
                found = best(beads, rule, long, RATES)
                self.assertFalse(found is not None and most.is_below(found[0]))
        self.assertGreater(min(told.values()), 100)

    def test_the_paper_stays(self):
        for paper in [list(FOUR_PLACES), FOUR_PLACES[::-1], FOUR_PLACES + FOUR_PLACES[:1], [list(FOUR_PLACES[0])], []]:
            kept = list(paper)
            shown = repr(paper)
            told = bars_better(SIX, RULE, 4, RATES, Share(21), paper)
            self.assertEqual(repr(paper), shown)
            self.assertEqual(len(paper), len(kept))
            for one, other in zip(paper, kept):
                self.assertIs(one, other)
            self.assertIs(bars_better(SIX, RULE, 4, RATES, Share(21), paper), told)

    def test_by_places_by_names_left_out(self):
        beads = [Bead(1, 5, 4, "rose", drilled=True), Bead(2, 5, 6, "rose", drilled=True)]

        def paper(share):
            return [(1, 2, 0, share), (2, 1, 0, share)]

        for wanted, less in ((True, Share(0)), (False, Share(1, 1000))):
            self.assertIs(bars_better(beads, RULE, 2, RATES, Share(78), paper(Share(78).minus(less))), wanted)
            self.assertIs(bars_better(beads, RULE, 2, RATES, Share(99), paper(Share(78, 5).minus(less)), 5), wanted)
            self.assertIs(bars_better(beads, RULE, 2, RATES, Share(99), paper(Share(52, 5).minus(less)), 5, 3), wanted)
            self.assertIs(bars_better(beads, RULE, 2, RATES, Share(99), paper(Share(52).minus(less)), drilled=3),
                          wanted)
            self.assertIs(bars_better(drilled=3, base=5, paper=paper(Share(52, 5).minus(less)), most=Share(52, 5),
                                      rates=RATES, long=2, rule=RULE, beads=beads), wanted)


class Refused(unittest.TestCase):
    def asks(self, beads, rule, long, rates, base=1, drilled=2):
        """What is asked of both, of bars_better with papers of any kind."""
        told = [lambda: best_paper(beads, rule, long, rates, base, drilled)]
        for paper in ([], list(FOUR_PLACES), None, "ab", [5]):
            told.append(lambda paper=paper: bars_better(beads, rule, long, rates, Share(5), paper, base, drilled))
        return told

    def test_least_not_above_match(self):
        for least, match in [(0, 0), (1, 1), (3, 5), (10 ** 40, 10 ** 40)]:
            rule = Rule(least, 10 ** 41, match)
            for ask in (self.asks(SIX, rule, 3, RATES) + self.asks([], rule, 1, RATES) + self.asks(SIX, rule, 2, {})
                        + self.asks(SIX, rule, 2, RATES, 0)):
                with self.assertRaises(BadRule) as caught:
                    ask()
                self.assertIs(type(caught.exception), BadRule)

    def test_a_rate_that_lacks(self):
        lacks = [Bead(8, 90, 1, "white"), Bead(9, 95, 1, "ab", "cd")]
        for long in (1, 2, 5):
            for beads, pair in [(SIX + lacks, ("white", "round")), (lacks[::-1] + SIX, ("ab", "cd"))]:
                for ask in self.asks(beads, RULE, long, RATES):
                    with self.assertRaises(NoSuch) as caught:
                        ask()
                    self.assertEqual((caught.exception.kind, caught.exception.name), ("rate", pair))
                    self.assertIs(type(caught.exception.name), tuple)

    def test_over_nought(self):
        drilled = Bead(7, 80, 5, "rose", drilled=True)
        for long in (1, 2, 5):
            for beads, base, over, num in [(SIX, 0, 2, 3), (SIX[::-1], 0, 0, 3), (SIX[4:], 0, 1, 18),
                                           (SIX + [drilled], 4, 0, 75)]:
                for ask in self.asks(beads, RULE, long, RATES, base, over):
                    with self.assertRaises(NoShare) as caught:
                        ask()
                    self.assertEqual(caught.exception.num, num)

    def test_the_first_in_the_order_of_the_list(self):
        lacks, drilled = Bead(8, 90, 1, "white"), Bead(7, 80, 5, "rose", drilled=True)
        for ask in self.asks(SIX + [lacks, drilled], RULE, 3, RATES, 1, 0):
            with self.assertRaises(NoSuch):
                ask()
        for ask in self.asks(SIX + [drilled, lacks], RULE, 3, RATES, 1, 0):
            with self.assertRaises(NoShare):
                ask()


if __name__ == "__main__":
    unittest.main()
