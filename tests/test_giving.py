"""[7.4] to [7.7]: givings."""

import itertools
import random
import time
import unittest

from pearlrise.beads import Bead
from pearlrise.giving import bars_giving, could_be, giving, too_many
from pearlrise.lots import Lot
from tests.things import fields_of, no_wholes

# 1 and 2 fit ab alone, 3 fits ab and cd, 4 fits cd alone, 5 fits nothing.
BEADS = [Bead(1, 5, 1, "rose"), Bead(3, 7, 1, "rose"), Bead(2, 6, 1, "rose"), Bead(4, 9, 1, "rose"),
         Bead(5, 50, 1, "rose")]
LOTS = [Lot("cd", 2, 7, 9), Lot("ab", 2, 5, 7)]


def all_givings(beads, lots):
    """All givings, tried one by one, as dicts."""
    told = []
    for choice in itertools.product([None] + list(range(len(lots))), repeat=len(beads)):
        fits = all([at is None or lots[at].fits(bead) for at, bead in zip(choice, beads)])
        if fits and all([choice.count(at) <= lot.room for at, lot in enumerate(lots)]):
            told.append({bead.number: lots[at].name for at, bead in zip(choice, beads) if at is not None})
    return told


def by_chance(chance, many_beads, many_lots):
    """Beads and lots by chance, of little room, so that there is a whole giving in about half of the cases."""
    beads = [Bead(number, chance.randrange(1, 9), chance.randrange(1, 4), chance.choice(["rose", "rose", "grey"]))
             for number in chance.sample(range(1, 40), many_beads)]
    lots = []
    for name in chance.sample(["ab", "b", "cd", "e", "fgh"], many_lots):
        least = chance.randrange(1, 7)
        shades = chance.choice([(), (), ("rose",), ("grey",), ("rose", "grey"), ("white",)])
        lots.append(Lot(name, chance.choice([0, 1, 1, 2, 2, 3]), least, least + chance.randrange(8), shades))
    return beads, lots


class Giving(unittest.TestCase):
    def is_whole(self, given, beads, lots):
        """A dict that gives each bead to a lot that fits it, none more than its room."""
        self.assertIs(type(given), dict)
        self.assertEqual(sorted(given), sorted([bead.number for bead in beads]))
        by_name = {lot.name: lot for lot in lots}
        for bead in beads:
            self.assertIs(by_name[given[bead.number]].fits(bead), True)
        for lot in lots:
            self.assertLessEqual(list(given.values()).count(lot.name), lot.room)

    def test_as_written(self):
        self.assertEqual(giving(BEADS[:4], LOTS), {1: "ab", 2: "ab", 3: "cd", 4: "cd"})
        self.assertEqual(could_be(BEADS[:4], LOTS), {1: ["ab"], 2: ["ab"], 3: ["cd"], 4: ["cd"]})
        self.assertIsNone(too_many(BEADS[:4], LOTS))
        self.assertIsNone(giving(BEADS, LOTS))
        self.assertEqual(could_be(BEADS, LOTS), {1: [], 2: [], 3: [], 4: [], 5: []})
        self.assertEqual(too_many(BEADS, LOTS), [5])
        roomy = [Lot("cd", 2, 7, 9), Lot("ab", 3, 5, 7)]
        self.assertEqual(could_be(BEADS[:4], roomy), {1: ["ab"], 2: ["ab"], 3: ["cd", "ab"], 4: ["cd"]})
        self.assertEqual(could_be(BEADS[:4], roomy[::-1]), {1: ["ab"], 2: ["ab"], 3: ["ab", "cd"], 4: ["cd"]})
        tight = [Lot("cd", 1, 7, 9), Lot("ab", 2, 5, 7)]
        self.assertIsNone(giving(BEADS[:4], tight))
        self.assertEqual(too_many(BEADS[:4], tight), [1, 2, 3, 4])
        self.assertEqual(too_many(BEADS[:4], [Lot("cd", 1, 7, 9), Lot("ab", 3, 5, 6)]), [3, 4])

    def test_an_exchange(self):
        # Each may be of either lot, as one moves where the other one makes room.
        beads = [Bead(1, 5, 1, "rose"), Bead(2, 5, 2, "rose")]
        lots = [Lot("a", 1), Lot("b", 1)]
        self.assertEqual(could_be(beads, lots), {1: ["a", "b"], 2: ["a", "b"]})
        self.assertEqual(could_be(beads + [Bead(3, 9, 1, "rose")], lots), {1: [], 2: [], 3: []})
        self.assertEqual(too_many(beads + [Bead(3, 9, 1, "rose")], lots), [1, 2, 3])

    def test_an_exchange_by_three(self):
        beads = [Bead(1, 1, 1, "rose"), Bead(2, 2, 1, "rose"), Bead(3, 3, 1, "rose")]
        lots = [Lot("a", 1, 1, 2), Lot("b", 1, 2, 3), Lot("c", 1, 3, 3), Lot("d", 1, 1, 1)]
        self.assertEqual(could_be(beads, lots), {1: ["a", "d"], 2: ["a", "b"], 3: ["b", "c"]})
        self.assertEqual(could_be(beads, lots[:3]), {1: ["a"], 2: ["b"], 3: ["c"]})
        self.assertEqual(could_be(beads, lots[1:]), {1: ["d"], 2: ["b"], 3: ["c"]})

    def test_no_beads_no_lots_no_room(self):
        for lots in ([], LOTS, [Lot("ab", 0)]):
            self.assertEqual(giving([], lots), {})
            self.assertEqual(could_be([], lots), {})
            self.assertIsNone(too_many([], lots))
            self.assertIs(bars_giving([], lots, []), False)
        for lots in ([], [Lot("ab", 0)], [Lot("ab", 0), Lot("cd", 0)], [Lot("ab", 20, shades=("grey",))]):
            self.assertIsNone(giving(BEADS, lots))
            self.assertEqual(could_be(BEADS, lots), {1: [], 2: [], 3: [], 4: [], 5: []})
            self.assertEqual(too_many(BEADS, lots), [1, 2, 3, 4, 5])
            self.assertIs(bars_giving(BEADS, lots, [4]), True)
        self.assertEqual(could_be(BEADS[:1], [Lot("ab", 0), Lot("cd", 1), Lot("e", 0)]), {1: ["cd"]})
        self.assertEqual(giving(BEADS[:1], [Lot("ab", 0), Lot("cd", 1)]), {1: "cd"})

    def test_beside_all_givings(self):
        chance = random.Random(74)
        whole_ones = 0
        for turn in range(400):
            beads, lots = by_chance(chance, chance.randrange(6), chance.randrange(5))
            numbers = sorted([bead.number for bead in beads])
            givings = all_givings(beads, lots)
            most = max([len(given) for given in givings])
            whole = [given for given in givings if len(given) == len(beads)]
            wanted = {number: [lot.name for lot in lots if any([given[number] == lot.name for given in whole])]
                      for number in numbers}
            self.assertEqual(could_be(beads, lots), wanted)
            if whole:
                whole_ones += 1
                self.is_whole(giving(beads, lots), beads, lots)
                self.assertIn(giving(beads, lots), whole)
                self.assertIsNone(too_many(beads, lots))
            else:
                self.assertIsNone(giving(beads, lots))
                left = [number for number in numbers
                        if any([len(given) == most and number not in given for given in givings])]
                self.assertEqual(too_many(beads, lots), left)
                self.assertIs(bars_giving(beads, lots, too_many(beads, lots)), True)
        self.assertGreater(whole_ones, 80)
        self.assertLess(whole_ones, 320)

    def test_forty_beads_and_eight_lots(self):
        chance = random.Random(40)
        began = time.monotonic()
        found = 0
        for turn in range(40):
            beads = [Bead(number, chance.randrange(1, 100), 5, chance.choice(["rose", "grey", "white"]))
                     for number in chance.sample(range(1, 1000), 40)]
            lots = [Lot("abcdefgh"[at], chance.randrange(3, 9), 1 + 10 * at, 45 + 10 * at,
                        chance.choice([(), (), ("rose", "grey")])) for at in range(8)]
            given = giving(beads, lots)
            could = could_be(beads, lots)
            self.assertEqual(sorted(could), sorted([bead.number for bead in beads]))
            if given is None:
                self.assertEqual(list(could.values()), [[]] * 40)
                self.assertIs(bars_giving(beads, lots, too_many(beads, lots)), True)
            else:
                found += 1
                self.is_whole(given, beads, lots)
                self.assertIsNone(too_many(beads, lots))
                for number in given:
                    self.assertIn(given[number], could[number])
        self.assertGreater(found, 0)
        self.assertLess(found, 40)
        self.assertLess(time.monotonic() - began, 20)

    def test_forty_beads_that_fit_all_lots(self):
        began = time.monotonic()
        beads = [Bead(number, 5, 5, "rose") for number in range(40, 0, -1)]
        lots = [Lot(name, 5) for name in "hgfedcba"]
        self.is_whole(giving(beads, lots), beads, lots)
        self.assertEqual(could_be(beads, lots), {number: list("hgfedcba") for number in range(1, 41)})
        lots[3] = Lot("e", 4)
        self.assertIsNone(giving(beads, lots))
        self.assertEqual(too_many(beads, lots), list(range(1, 41)))
        self.assertEqual(could_be(beads, lots), {number: [] for number in range(1, 41)})
        self.assertLess(time.monotonic() - began, 20)

    def test_names_in_the_order_of_lots(self):
        beads = [Bead(1, 5, 5, "rose")]
        for names in itertools.permutations(["ab", "b", "cd"]):
            lots = [Lot(name, 1) for name in names]
            self.assertEqual(could_be(beads, lots), {1: list(names)})
            self.assertIs(type(could_be(beads, lots)[1]), list)

    def test_numbers_rise(self):
        beads = [Bead(number, 5, 5, "rose") for number in (30, 4, 100, 1, 9)]
        self.assertEqual(too_many(beads, [Lot("ab", 4)]), [1, 4, 9, 30, 100])
        self.assertIs(type(too_many(beads, [])), list)

    def test_by_names(self):
        self.assertEqual(giving(lots=LOTS, beads=BEADS[:1]), {1: "ab"})
        self.assertEqual(could_be(lots=LOTS, beads=BEADS[:1]), {1: ["ab"]})
        self.assertEqual(too_many(lots=LOTS, beads=BEADS), [5])
        self.assertIs(bars_giving(numbers=[5], lots=LOTS, beads=BEADS), True)

    def test_asked_again_and_changed_behind(self):
        for beads in (BEADS[:4], BEADS):
            handed, lots = list(beads), list(LOTS)
            given, could, many = giving(handed, lots), could_be(handed, lots), too_many(handed, lots)
            kept = (repr(given), repr(could), repr(many))
            for told in (given, could, many):
                if told is not None:
                    if told == could:
                        for number in told:
                            told[number].append("zz")
                    told.clear()
            could = could_be(handed, lots)
            could[1].append("zz")
            could[2].append("yy")
            self.assertEqual([could[3], could[4]], [["cd"], ["cd"]] if len(beads) == 4 else [[], []])
            self.assertEqual((repr(giving(handed, lots)), repr(could_be(handed, lots)), repr(too_many(handed, lots))),
                             kept)
            self.assertEqual([fields_of(bead) for bead in handed], [fields_of(bead) for bead in beads])
            self.assertEqual([repr(lot) for lot in lots], [repr(lot) for lot in LOTS])


class Bars(unittest.TestCase):
    lots = [Lot("cd", 1, 7, 9), Lot("ab", 2, 5, 7)]

    def bars(self, numbers, wanted):
        self.assertIs(bars_giving(BEADS, self.lots, numbers), wanted, numbers)

    def test_what_too_many_tells(self):
        self.bars(too_many(BEADS, self.lots), True)
        self.assertEqual(too_many(BEADS, self.lots), [1, 2, 3, 4, 5])

    def test_other_orders_and_other_numbers(self):
        for order in itertools.permutations([1, 2, 3, 4]):
            self.bars(list(order), True)
        self.bars([5], True)
        self.bars([5, 1], False)
        self.bars([5, 1, 2], True)
        for numbers in ([1], [1, 2], [1, 2, 3], [4], [3, 4], [1, 4], [1, 3, 4], [2, 3, 4]):
            self.bars(numbers, False)

    def test_as_much_room_as_beads(self):
        beads = BEADS[:3]
        for room, wanted in ((2, True), (3, False), (4, False)):
            self.assertIs(bars_giving(beads, [Lot("ab", room)], [1, 2, 3]), wanted)
            self.assertIs(bars_giving(beads, [Lot("ab", room), Lot("zz", 20, 90)], [1, 2, 3]), wanted)
            self.assertIs(bars_giving(beads, [Lot("ab", room - 1), Lot("b", 1, 5, 5)], [1, 2, 3]), wanted)

    def test_the_empty_list(self):
        self.bars([], False)
        self.assertIs(bars_giving(BEADS, [], []), False)

    def test_told_twice_and_not_there(self):
        for numbers in ([5, 5], [1, 2, 3, 4, 4], [5, 1, 2, 5], [6], [5, 6], [0], [-5], [1, 2, 3, 4, 99], [10 ** 40],
                        [5, 1, 2, 0], [1, 1, 1, 1]):
            self.bars(numbers, False)

    def test_things_of_other_kinds_within(self):
        self.bars([1, 5, 2], True)
        for numbers in ([True, 5, 2], [1, 5, 2.0], ["5"], [[5]], [(5,)], [5.0], [None], [BEADS[4]], [1, 2, 3, "4"],
                        [[1, 2, 3, 4]], [{5: 5}], [5, None]):
            self.bars(numbers, False)
        for thing in no_wholes():
            self.bars([thing], False)
            self.bars([5, thing], False)
            self.bars([1, 2, 3, 4, thing], False)
        self.assertIs(bars_giving(BEADS, [], [True]), False)
        self.assertIs(bars_giving(BEADS, [], [1]), True)

    def test_what_is_no_list(self):
        for thing in no_wholes() + [0, 1, 5, (5,), (1, 2, 3, 4), {5: 5}, {1: 1, 2: 2, 3: 3, 4: 4}, "5", {5}]:
            if not isinstance(thing, list):
                self.bars(thing, False)
                self.assertIs(bars_giving(BEADS, [], thing), False)

    def test_beside_all_givings(self):
        chance = random.Random(77)
        told = {True: 0, False: 0}
        for turn in range(1000):
            beads, lots = by_chance(chance, chance.randrange(1, 7), chance.randrange(5))
            numbers = chance.sample([bead.number for bead in beads], chance.randrange(len(beads) + 1))
            chosen = [bead for bead in beads if bead.number in numbers]
            room = 0
            for lot in lots:
                if [bead for bead in chosen if lot.fits(bead)]:
                    room += lot.room
            wanted = room < len(numbers)
            self.assertIs(bars_giving(beads, lots, numbers), wanted)
            told[wanted] += 1
            if wanted:
                self.assertIsNone(giving(beads, lots))
        self.assertGreater(min(told.values()), 200)

    def test_what_is_handed_in_stays(self):
        for numbers in ([4, 1, 3, 2], [5, 5], [4, "a"]):
            beads, lots, kept = list(BEADS), list(self.lots), list(numbers)
            told = bars_giving(beads, lots, numbers)
            self.assertEqual(numbers, kept)
            self.assertEqual([fields_of(bead) for bead in beads], [fields_of(bead) for bead in BEADS])
            self.assertEqual([repr(lot) for lot in lots], [repr(lot) for lot in self.lots])
            self.assertIs(bars_giving(beads, lots, numbers), told)


if __name__ == "__main__":
    unittest.main()
