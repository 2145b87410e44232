"""[6.1] to [6.4]: beads in pairs."""

import random
import unittest

from pearlrise.beads import Bead
from pearlrise.pairs import clusters, most_pairs, shows
from tests.things import fields_of, no_wholes

# With match 1: 3, 5, 1 hang together, 3 with 5 and 5 with 1; 4 and 2 are alike; 6 and 7 stand alone.
SEVEN = [Bead(1, 12, 1, "rose"), Bead(2, 10, 2, "grey"), Bead(3, 10, 3, "rose"), Bead(4, 10, 4, "grey"),
         Bead(5, 11, 5, "rose"), Bead(6, 11, 6, "rose", "oval"), Bead(7, 11, 7, "rose", drilled=True)]
CLUSTERS = [[3, 5, 1], [2, 4], [6], [7]]
PAIRS = [(2, 4), (3, 5)]


def pair_up(bead, other, match):
    """Whether two beads pair, word by word."""
    return bead.row()[3:] == other.row()[3:] and -match <= bead.across - other.across <= match


def clusters_told(beads, match):
    """The clusters, each grown from a bead until nothing more pairs with one of it."""
    left = sorted(beads, key=lambda bead: bead.number)
    told = []
    while left:
        grown = [left.pop(0)]
        for bead in grown:
            for other in list(left):
                if pair_up(bead, other, match):
                    left = [one for one in left if one is not other]
                    grown.append(other)
        grown.sort(key=lambda bead: (bead.across, bead.number))
        told.append([bead.number for bead in grown])
    return sorted(told, key=min)


def most(beads, match):
    """How many pairs there can be, all pairings tried."""
    if len(beads) < 2:
        return 0
    first, rest = beads[0], beads[1:]
    found = most(rest, match)
    for other in rest:
        if pair_up(first, other, match):
            found = max(found, 1 + most([bead for bead in rest if bead is not other], match))
    return found


def shows_told(beads, pairs, groups, match):
    """[6.4] word by word, of a list of tuples of two numbers and a list of lists of numbers."""
    by_number = {bead.number: bead for bead in beads}
    paired = [number for pair in pairs for number in pair]
    grouped = [number for group in groups for number in group]
    if len(set(paired)) < len(paired) or not set(paired) <= set(by_number):
        return False
    if sorted(grouped) != sorted(by_number):
        return False
    for one, other in pairs:
        if not pair_up(by_number[one], by_number[other], match):
            return False
    for group in groups:
        for number in group:
            for other in by_number:
                if other not in group and pair_up(by_number[number], by_number[other], match):
                    return False
    return len([number for number in by_number if number not in paired]) == sum([len(group) % 2 for group in groups])


def beads_by_chance(chance, many, wide):
    return [Bead(number, chance.randrange(1, wide), chance.randrange(1, 9), chance.choice(["ab", "ab", "ab", "cd"]),
                 chance.choice(["round"] * 5 + ["oval"]), chance.random() < 0.1)
            for number in chance.sample(range(1, 3 * many + 2), many)]


class Clusters(unittest.TestCase):
    def test_as_written(self):
        self.assertEqual(clusters(SEVEN, 1), CLUSTERS)
        self.assertEqual(clusters(SEVEN, 2), CLUSTERS)
        self.assertEqual(clusters(SEVEN, 10 ** 40), CLUSTERS)
        self.assertEqual(clusters(SEVEN, 0), [[1], [2, 4], [3], [5], [6], [7]])
        self.assertEqual(clusters(SEVEN), [[1], [2, 4], [3], [5], [6], [7]])
        self.assertEqual(most_pairs(SEVEN, 1), PAIRS)
        self.assertEqual(most_pairs(SEVEN), [(2, 4)])
        self.assertEqual(most_pairs(SEVEN, 0), [(2, 4)])

    def test_none_and_one(self):
        for match in (0, 1, 10 ** 40):
            self.assertEqual(clusters([], match), [])
            self.assertEqual(most_pairs([], match), [])
            self.assertEqual(clusters(SEVEN[2:3], match), [[3]])
            self.assertEqual(most_pairs(SEVEN[2:3], match), [])

    def test_as_far_as_match_and_one_more(self):
        for match in (0, 1, 5, 999998):
            for number in (1, 3):
                near = [Bead(2, 1, 5, "ab"), Bead(number, 1 + match, 9, "ab")]
                far = [Bead(2, 1, 5, "ab"), Bead(number, 2 + match, 9, "ab")]
                for turn in (1, -1):
                    self.assertEqual(clusters(near[::turn], match), [[min(2, number), max(2, number)] if match == 0
                                                                     else [2, number]])
                    self.assertEqual(most_pairs(near[::turn], match), [(min(2, number), max(2, number))])
                    self.assertEqual(clusters(far[::turn], match), [[min(2, number)], [max(2, number)]])
                    self.assertEqual(most_pairs(far[::turn], match), [])

    def test_unlike_looks(self):
        one = Bead(1, 5, 6, "ab")
        for other in (Bead(2, 5, 6, "cd"), Bead(2, 5, 6, "ab", "oval"), Bead(2, 5, 6, "ab", drilled=True)):
            self.assertEqual(clusters([other, one], 9), [[1], [2]])
            self.assertEqual(most_pairs([other, one], 9), [])
        self.assertEqual(clusters([Bead(2, 5, 99, "ab"), one]), [[1, 2]])

    def test_a_look_between_parts_nothing(self):
        beads = [Bead(1, 5, 6, "ab"), Bead(2, 6, 6, "cd"), Bead(3, 7, 6, "ab")]
        self.assertEqual(clusters(beads, 1), [[1], [2], [3]])
        self.assertEqual(clusters(beads, 2), [[1, 3], [2]])

    def test_by_across_then_number_then_least(self):
        beads = [Bead(9, 5, 1, "ab"), Bead(4, 6, 1, "ab"), Bead(8, 5, 1, "ab"), Bead(2, 9, 1, "ab"),
                 Bead(7, 6, 1, "ab"), Bead(3, 1, 1, "zz"), Bead(1, 6, 1, "ab")]
        self.assertEqual(clusters(beads, 1), [[8, 9, 1, 4, 7], [2], [3]])
        self.assertEqual(most_pairs(beads, 1), [(1, 4), (8, 9)])
        self.assertEqual(most_pairs(beads, 3), [(1, 4), (2, 7), (8, 9)])

    def test_by_names(self):
        self.assertEqual(clusters(match=1, beads=SEVEN), CLUSTERS)
        self.assertEqual(most_pairs(match=1, beads=SEVEN), PAIRS)
        self.assertEqual(clusters(SEVEN, match=1), CLUSTERS)
        self.assertIs(shows(match=1, groups=CLUSTERS, pairs=PAIRS, beads=SEVEN), True)
        self.assertIs(shows(SEVEN, [(2, 4)], clusters(SEVEN)), True)

    def test_sixty(self):
        beads = [Bead(number, 1 + 7 * number % 61, 5, "ab") for number in range(60, 0, -1)]
        by_across = sorted(range(1, 61), key=lambda number: 1 + 7 * number % 61)
        self.assertEqual(clusters(beads, 1), [by_across])
        self.assertEqual(len(most_pairs(beads, 1)), 30)
        self.assertEqual(most_pairs(beads, 1), sorted([tuple(sorted(by_across[at:at + 2])) for at in range(0, 60, 2)]))
        self.assertEqual(clusters(beads), [[number] for number in range(1, 61)])
        self.assertIs(shows(beads, most_pairs(beads, 1), clusters(beads, 1), 1), True)

    def test_many_as_told_word_by_word(self):
        chance = random.Random(62)
        for turn in range(400):
            beads = beads_by_chance(chance, chance.randrange(61) if turn % 10 == 0 else chance.randrange(12), 40)
            match = chance.choice([0, 1, 2, 3, 5])
            wanted = clusters_told(beads, match)
            self.assertEqual(clusters(beads, match), wanted)
            pairs = [tuple(sorted(cluster[at:at + 2])) for cluster in wanted for at in range(0, len(cluster) - 1, 2)]
            self.assertEqual(most_pairs(beads, match), sorted(pairs))
            self.assertIs(shows(beads, most_pairs(beads, match), clusters(beads, match), match), True)

    def test_as_many_as_all_pairings_tell(self):
        chance = random.Random(63)
        odd = 0
        for turn in range(300):
            beads = beads_by_chance(chance, turn % 8, 10)
            match = chance.choice([0, 1, 1, 2, 3])
            pairs = most_pairs(beads, match)
            self.assertEqual(len(pairs), most(beads, match))
            numbers = [number for pair in pairs for number in pair]
            self.assertEqual(len(numbers), len(set(numbers)))
            self.assertEqual(pairs, sorted(pairs))
            for pair in pairs:
                self.assertIs(type(pair), tuple)
                self.assertLess(pair[0], pair[1])
            odd += any([len(cluster) > 2 and len(cluster) % 2 == 1 for cluster in clusters(beads, match)])
        self.assertGreater(odd, 30)

    def test_asked_again_and_changed_behind(self):
        beads = list(SEVEN)
        told = clusters(beads, 1)
        told[0].append(99)
        told[1].clear()
        told.pop()
        pairs = most_pairs(beads, 1)
        pairs.clear()
        self.assertEqual(clusters(beads, 1), CLUSTERS)
        self.assertEqual(most_pairs(beads, 1), PAIRS)
        self.assertEqual(len(beads), 7)
        for one, other in zip(beads, SEVEN):
            self.assertIs(one, other)
        beads.clear()
        self.assertEqual(clusters(beads, 1), [])


class Shows(unittest.TestCase):
    def shown(self, pairs, groups, wanted, match=1):
        self.assertIs(shows(SEVEN, pairs, groups, match), wanted, (pairs, groups))

    def test_what_is_told(self):
        self.shown(PAIRS, CLUSTERS, True)
        self.shown(most_pairs(SEVEN, 1), clusters(SEVEN, 1), True)
        self.assertIs(shows([], [], []), True)
        self.assertIs(shows(SEVEN[:1], [], [[1]]), True)

    def test_other_orders(self):
        self.shown([(3, 5), (2, 4)], CLUSTERS, True)
        self.shown([(5, 3), (4, 2)], CLUSTERS, True)
        self.shown(PAIRS, CLUSTERS[::-1], True)
        self.shown(PAIRS, [[7], [4, 2], [1, 3, 5], [6]], True)
        self.shown([(2, 4), (1, 5)], CLUSTERS, True)

    def test_an_empty_group(self):
        self.shown(PAIRS, CLUSTERS + [[]], True)
        self.shown(PAIRS, [[], []] + CLUSTERS, True)
        self.assertIs(shows([], [], [[]]), True)
        self.assertIs(shows([], [], [[], []]), True)

    def test_pairs_that_show_nothing(self):
        for pairs in [[], [(2, 4)], [(3, 5)], [(2, 4), (3, 1)], [(2, 4), (1, 3)], [(2, 4), (6, 7)], [(2, 3), (5, 1)],
                      [(2, 4), (3, 5), (1, 6)], [(2, 4), (3, 5), (3, 5)], [(2, 4), (2, 4)], [(2, 4), (4, 2)],
                      [(2, 4), (3, 5), (5, 1)], [(3, 5), (5, 1)], [(2, 2), (3, 5)], [(2, 4), (5, 5)],
                      [(2, 4), (6, 6)], [(2, 4), (3, 8)], [(2, 4), (99, 5)], [(2, 4), (0, 5)], [(2, 4), (-3, 5)],
                      [(2, 4), (10 ** 40, 5)], [(2, 4), (3, 5), (98, 99)]]:
            self.shown(pairs, CLUSTERS, False)

    def test_groups_that_show_nothing(self):
        for groups in [[], [[3, 5, 1], [2, 4], [6]], [[3, 5, 1], [6], [7]], [[3], [2, 4], [6], [7]],
                       CLUSTERS + [[7]], [[3, 5, 1], [2, 4], [6], [7, 7]],
                       [[3, 5, 1], [2, 4], [6, 3], [7]], [[3, 5], [2, 4], [6], [7]], [[3, 5], [1], [2, 4], [6], [7]],
                       [[3], [5, 1], [2, 4], [6], [7]], [[3, 5, 1], [2], [4], [6], [7]], [[3, 5, 1], [2, 4], [6, 7]],
                       [[3, 5, 1, 6], [2, 4], [7]], [[1, 2, 3, 4, 5, 6, 7]], CLUSTERS + [[8]],
                       [[3, 5, 1], [2, 4], [6], [8]], [[3, 5, 1, 8], [2, 4], [6], [7]], CLUSTERS + [[0]],
                       [[3, 5, 1], [2, 4], [6], [7, 8, 9]], [[3, 5, 1, 1, 1], [2, 4], [6], [7]]]:
            self.shown(PAIRS, groups, False)

    def test_groups_put_together_of_which_one_is_even(self):
        self.shown(PAIRS, [[3, 5, 1, 2, 4], [6], [7]], True)
        self.shown(PAIRS, [[3, 5, 1], [2, 4, 6], [7]], True)
        self.shown(PAIRS, [[3, 5, 1, 2, 4, 6, 7]], False)

    def test_match(self):
        self.shown(PAIRS, CLUSTERS, False, match=0)
        self.shown([(2, 4)], CLUSTERS, False, match=0)
        self.shown([(2, 4)], [[1], [2, 4], [3], [5], [6], [7]], True, match=0)
        self.shown([(2, 4), (1, 3)], CLUSTERS, True, match=2)
        self.assertIs(shows(SEVEN, PAIRS, CLUSTERS), False)

    def test_truths_for_the_number_1(self):
        self.shown([(2, 4), (True, 5)], CLUSTERS, False)
        self.shown([(2, 4), (5, True)], CLUSTERS, False)
        self.shown([(2, 4), (1, 5)], CLUSTERS, True)
        self.shown(PAIRS, [[3, 5, True], [2, 4], [6], [7]], False)
        self.assertIs(shows(SEVEN[:1], [], [[True]]), False)
        self.assertIs(shows(SEVEN[:1], [], [[1.0]]), False)

    def test_things_of_other_kinds_within(self):
        for thing in no_wholes():
            self.shown([(2, 4), (3, thing)], CLUSTERS, False)
            self.shown([(2, 4), (thing, 5)], CLUSTERS, False)
            self.shown(PAIRS + [thing], CLUSTERS, False)
            self.shown([(thing, thing)], CLUSTERS, False)
            self.shown(PAIRS, CLUSTERS + [[thing]], False)
            self.shown(PAIRS, [[3, 5, thing], [2, 4], [6], [7]], False)
            if thing != []:
                self.shown(PAIRS, CLUSTERS + [thing], False)
        for pairs in [[(2, 4), [3, 5]], [[2, 4], [3, 5]], [(2, 4), (3,)], [(2, 4), (3, 5, 1)], [(2, 4), ()],
                      [(2, 4), (3, 5), ()], [2, 4, 3, 5], [(2, 4), "35"], [(2, 4), ("3", "5")], [(2, 4), {3: 5}],
                      [(2, 4), {3: 1, 5: 1}], [(2, 4), (SEVEN[2], SEVEN[4])], [(2.0, 4), (3, 5)],
                      [(2, 4), ((3, 5), 5)], [((2, 4), (3, 5))]]:
            self.shown(pairs, CLUSTERS, False)
        for groups in [[(3, 5, 1), [2, 4], [6], [7]], [[3, 5, 1], [2, 4], [6], 7], [[3, 5, 1], [2, 4], [6], {7: 7}],
                       [[3, 5, 1], [2, 4], [6], "7"], [[3, 5, 1], [2, 4], [6], ["7"]], [[3, 5, 1], [2, 4], [6], None],
                       [1, 2, 3, 4, 5, 6, 7], [[[3, 5, 1], [2, 4], [6], [7]]], CLUSTERS + [()], CLUSTERS + [{}],
                       CLUSTERS + [""], [[3, 5, 1], [2, 4], [6], [SEVEN[6]]], [[3, 5, 1], [2, 4], [6.0], [7]]]:
            self.shown(PAIRS, groups, False)

    def test_what_is_no_list(self):
        for thing in no_wholes() + [0, 1, -1, tuple(PAIRS), {2: 4, 3: 5}, dict.fromkeys(PAIRS), str(PAIRS), set(PAIRS)]:
            if not isinstance(thing, list):
                self.shown(thing, CLUSTERS, False)
                self.shown(PAIRS, thing, False)
                self.shown(thing, thing, False)
                self.assertIs(shows([], thing, []), False)
                self.assertIs(shows([], [], thing), False)
        for thing in (tuple(CLUSTERS), dict(enumerate(CLUSTERS)), str(CLUSTERS), tuple(map(tuple, CLUSTERS))):
            self.shown(PAIRS, thing, False)

    def test_many_as_told_word_by_word(self):
        chance = random.Random(64)
        told = {True: 0, False: 0}
        for turn in range(3000):
            beads = beads_by_chance(chance, chance.randrange(1, 9), 9)
            match = chance.choice([0, 1, 1, 2])
            pairs, groups = most_pairs(beads, match), clusters(beads, match)
            numbers = [bead.number for bead in beads]
            for change in range(chance.randrange(3)):
                what = chance.randrange(7)
                if what == 0 and pairs:
                    pairs.pop(chance.randrange(len(pairs)))
                elif what == 1:
                    pairs.append((chance.choice(numbers), chance.choice(numbers)))
                elif what == 2 and len(groups) > 1:
                    groups[0] = groups[0] + groups.pop()
                elif what == 3 and groups:
                    group = groups.pop(chance.randrange(len(groups)))
                    at = chance.randrange(len(group) + 1)
                    groups += [group[:at], group[at:]]
                elif what == 4:
                    chance.choice(groups).append(chance.choice(numbers))
                elif what == 5:
                    groups.pop(chance.randrange(len(groups)))
                    groups.append([])
                else:
                    match += chance.choice([0, 0, 1])
            wanted = shows_told(beads, pairs, groups, match)
            self.assertIs(shows(beads, pairs, groups, match), wanted)
            told[wanted] += 1
            if wanted:
                self.assertEqual(len(pairs), most(beads, match))
        self.assertGreater(min(told.values()), 500)

    def test_what_is_handed_in_stays(self):
        beads, pairs, groups = list(SEVEN), list(PAIRS), [list(group) for group in CLUSTERS]
        self.assertIs(shows(beads, pairs, groups, 1), True)
        self.assertIs(shows(beads, pairs, groups, 0), False)
        self.assertEqual((pairs, groups), (PAIRS, CLUSTERS))
        self.assertEqual([fields_of(bead) for bead in beads], [fields_of(bead) for bead in SEVEN])
        self.assertIs(shows(beads, pairs, groups, 1), True)


if __name__ == "__main__":
    unittest.main()
