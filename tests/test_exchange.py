"""[9.1] to [9.4]: a gap filled by exchanges."""

import itertools
import random
import time
import unittest

from pearlrise.errors import BadDeed, NoPlace, NoSuch, PearlError
from pearlrise.exchange import chain_deeds, fewest
from pearlrise.exchangepaper import bars_fewer, layers
from pearlrise.rules import Rule
from tests.stocks import (all_exchanges, chain_stock, fits, gaps_of, is_free, rising_by_chance, row, shortest,
                          stock_by_chance, stock_of)
from tests.things import Alike, Keyless, fields_in, no_wholes, stock_told


class TheGap(unittest.TestCase):
    def all_four(self, stock, name, at):
        return [lambda: fewest(stock, name, at), lambda: chain_deeds(stock, name, at, [11, 13]),
                lambda: chain_deeds(stock, name, at, None), lambda: layers(stock, name, at),
                lambda: bars_fewer(stock, name, at, 1, []), lambda: bars_fewer(stock, name, at, None, None),
                lambda: chain_deeds(stock=stock, name=name, at=at, numbers=[]),
                lambda: fewest(at=at, name=name, stock=stock), lambda: layers(at=at, name=name, stock=stock),
                lambda: bars_fewer(paper=[], many=True, at=at, name=name, stock=stock)]

    def refused(self, name, at, kind, fields):
        stock = chain_stock(1)
        told = stock_told(stock)
        for function in self.all_four(stock, name, at):
            with self.assertRaises(kind, msg=(name, at)) as caught:
                function()
            self.assertIs(type(caught.exception), kind)
            found = fields_in(caught.exception)
            self.assertEqual(len(found), len(fields))
            for one, other in zip(found, fields):
                # What is not equal to itself is the same thing, though.
                self.assertTrue(one is other or one == other)
            self.assertEqual(stock_told(stock), told)

    def test_no_such_string(self):
        for name in ("v", "z", "lot", "aa"):
            for at in (0, 1, 5, -1, None, True, "0", [], {}, Keyless()):
                self.refused(name, at, NoSuch, ["string", name])

    def test_what_is_no_whole_number(self):
        for at in no_wholes() + [[0], (0,), {0: 0}, Keyless(), "0"]:
            self.refused("g", at, NoPlace, [at])
            self.refused("a", at, NoPlace, [at])

    def test_no_place(self):
        for at in (-1, -2, 2, 3, 9, 10 ** 30, -10 ** 30):
            self.refused("g", at, NoPlace, [at])

    def test_no_place_where_the_last_one_is_a_gap(self):
        stock = stock_of([("buy", "lot", (row(1, 5), row(2, 5), row(3, 5))), ("string", "g", (1, 2)),
                          ("take", "g", 1)])
        for at in (-1, -2, 2):
            for function in self.all_four(stock, "g", at):
                with self.assertRaises(NoPlace) as caught:
                    function()
                self.assertEqual(caught.exception.at, at)
        self.assertEqual(fewest(stock, "g", 1), [2])

    def test_a_bead_stands_there(self):
        self.refused("g", 1, NoPlace, [1])
        self.refused("a", 0, NoPlace, [0])
        self.refused("a", 1, NoPlace, [1])

    def test_a_truth_is_no_place(self):
        # The gaps are at 0 and 1, so a truth would be one where it were taken as a number.
        stock = stock_of([("buy", "lot", (row(1, 5), row(2, 5))), ("string", "g", (1, 2)), ("take", "g", 0),
                          ("take", "g", 1)])
        for at in (True, False):
            for function in self.all_four(stock, "g", at):
                with self.assertRaises(NoPlace) as caught:
                    function()
                self.assertIs(caught.exception.at, at)
        self.assertEqual(fewest(stock, "g", 0), [1])
        self.assertEqual(fewest(stock, "g", 1), [1])


class Fewest(unittest.TestCase):
    def tells(self, stock, name, at, numbers):
        told = stock_told(stock)
        for turn in range(2):
            found = fewest(stock, name, at)
            self.assertEqual(found, numbers)
            self.assertEqual(stock_told(stock), told)
            if numbers is not None:
                self.assertIs(type(found), list)
                found.append(1)
        self.assertEqual(shortest(all_exchanges(stock, name, at)), numbers)

    def done_so(self, stock, deeds):
        self.assertEqual(chain_deeds(stock, "a", 2, [2, 4]), deeds)
        for deed in deeds:
            stock.do(deed)
        self.assertEqual([stock.string("g"), stock.string("a")], [[None, 4, None], [5, 6, 2]])

    def test_through_so_many_strings(self):
        for strings in range(5):
            self.tells(chain_stock(strings), "g", 0, list(range(11, 12 + 2 * strings, 2)))

    def test_none(self):
        for strings in range(5):
            self.tells(chain_stock(strings, free=False), "g", 0, None)

    def test_one_free_bead(self):
        rows = (row(5, 10), row(6, 10), row(7, 11), row(8, 30), row(4, 30), row(9, 9))
        stock = stock_of([("buy", "lot", rows), ("string", "g", (5, 6)), ("take", "g", 0)])
        self.tells(stock, "g", 0, [5])
        stock.do(("string", "z", (5,)))
        stock.do(("sell", "z"))
        self.tells(stock, "g", 0, [7])
        stock.do(("aside", 7))
        self.tells(stock, "g", 0, [7])
        stock.do(("string", "z", (7,)))
        # The one on the other string fits, too, but a free one is shorter.
        self.tells(stock, "g", 0, [9])

    def test_the_first_of_several_as_short(self):
        rows = (row(1, 12), row(2, 12), row(3, 12), row(4, 10), row(5, 11), row(6, 11), row(7, 11), row(8, 12),
                row(9, 40))
        deeds = [("buy", "lot", rows), ("string", "g", (9,)), ("take", "g", 0)]
        # With one place any bead fits, so 1 is the first of the free ones.
        self.tells(stock_of(deeds), "g", 0, [1])
        deeds = [("buy", "lot", rows), ("string", "g", (5, 4)), ("take", "g", 0), ("string", "z", (5,)), ("sell", "z"),
                 ("string", "b", (7, 8)), ("string", "a", (6, 2))]
        self.tells(stock_of(deeds), "g", 0, [6, 1])
        deeds += [("take", "a", 0), ("string", "z", (6,)), ("sell", "z")]
        self.tells(stock_of(deeds), "g", 0, [7, 1])

    def test_the_first_though_a_later_bead_ends_lower(self):
        # By 2 to the free 40, by 3 to the free 1: numbers are compared from the first on.
        rows = (row(20, 10), row(2, 11), row(21, 12), row(40, 13), row(3, 9), row(22, 8), row(1, 7), row(23, 10))
        stock = stock_of([("buy", "lot", rows), ("string", "g", (23, 20)), ("take", "g", 0), ("string", "z", (23,)),
                          ("sell", "z"), ("string", "a", (3, 22)), ("string", "b", (2, 21))])
        self.assertEqual(sorted(all_exchanges(stock, "g", 0)), [[2, 40], [3, 1]])
        self.tells(stock, "g", 0, [2, 40])

    def test_beads_of_the_gaps_own_string_are_none(self):
        # 3 would fit the other gap, were it not of the gap's own string.
        rows = (row(1, 10), row(2, 12), row(3, 10), row(4, 11))
        stock = stock_of([("buy", "lot", rows), ("string", "g", (1, 2, 3)), ("take", "g", 0), ("string", "z", (1,)),
                          ("sell", "z")])
        self.tells(stock, "g", 0, [4])
        stock.do(("string", "z", (4,)))
        stock.do(("sell", "z"))
        self.tells(stock, "g", 0, None)

    def test_no_two_of_one_string(self):
        # The gap is filled by 11, its place by 13 of the same string alone.
        rows = tuple([row(number, number) for number in range(9, 18)])
        stock = stock_of([("buy", "lot", rows), ("string", "g", (9, 10)), ("take", "g", 0),
                          ("string", "a", (11, 13, 14, 12)), ("string", "z", (9,)), ("sell", "z")] +
                         [deed for number in (16, 17) for deed in [("string", "z", (number,)), ("sell", "z")]])
        self.assertEqual(stock.string("a"), [11, 13, 14, 12])
        self.tells(stock, "g", 0, None)
        # 15 is free and fits where 13 or 14 stands, but neither fits the gap.
        self.assertTrue(fits(stock, "a", 1, 15))
        self.assertTrue(is_free(stock, 15))

    def test_strings_with_other_gaps(self):
        rows = (row(1, 10), row(2, 12), row(3, 10), row(4, 20), row(5, 11), row(6, 13), row(7, 12), row(8, 12))
        stock = stock_of([("buy", "lot", rows), ("string", "g", (1, 2, 3)), ("string", "a", (5, 6, 7)),
                          ("take", "g", 0), ("take", "g", 2), ("take", "a", 2), ("string", "y", (1, 3))] +
                         [deed for number in (7, 8) for deed in [("string", "z", (number,)), ("sell", "z")]] +
                         [("sell", "y")])
        self.assertEqual(stock.string("g"), [None, 2, None])
        self.assertEqual(stock.string("a"), [5, 6, None])
        self.tells(stock, "g", 0, None)
        # Beside gaps no step is asked, so that 4 fits the place that 2 leaves.
        self.tells(stock, "a", 2, [2, 4])
        self.done_so(stock, [("take", "g", 1), ("fill", "a", 2, 2), ("fill", "g", 1, 4)])
        wide = Rule(0, 20, 30, False)
        stock = stock_of([("buy", "lot", rows), ("string", "g", (1, 2, 3)), ("string", "a", (5, 6, 7)),
                          ("take", "g", 0), ("take", "g", 2), ("take", "a", 2)], wide)
        for name, at in gaps_of(stock):
            self.assertEqual(fewest(stock, name, at), shortest(all_exchanges(stock, name, at)))

    def test_held_against_all_exchanges(self):
        lengths, strings, choices = {}, {}, 0
        for turn in range(900):
            chance = random.Random(turn)
            stock = stock_by_chance(chance) if turn % 4 == 0 else rising_by_chance(chance)
            told = stock_told(stock)
            for name, at in gaps_of(stock):
                exchanges = all_exchanges(stock, name, at)
                found = fewest(stock, name, at)
                self.assertEqual(found, shortest(exchanges), (turn, name, at))
                many = 0 if found is None else len(found)
                lengths[many] = lengths.get(many, 0) + 1
                choices += many > 1 and [len(numbers) for numbers in exchanges].count(many) > 1
                strings[len(stock.strings())] = strings.get(len(stock.strings()), 0) + 1
            self.assertEqual(stock_told(stock), told)
        for many in range(6):
            self.assertGreater(lengths.get(many, 0), 4, lengths)
        for many in range(1, 6):
            self.assertGreater(strings.get(many, 0), 4, strings)
        self.assertGreater(choices, 20)

    def test_sixty_beads_where_all_fit(self):
        rule = Rule(0, 1000000, 1000000, False)
        rows = [row(number, 7) for number in range(1, 61)]
        deeds = [("buy", "ab", tuple(rows[:40])), ("buy", "cd", tuple(rows[40:]))]
        deeds += [("string", name, tuple(range(1 + 9 * at, 10 + 9 * at))) for at, name in enumerate("abcde")]
        stock = stock_of(deeds + [("take", "c", 4)], rule)
        self.assertEqual(fewest(stock, "c", 4), [23])
        for number in [23] + list(range(46, 61)):
            stock.do(("string", "z", (number,)))
            stock.do(("sell", "z"))
        start = time.monotonic()
        self.assertIsNone(fewest(stock, "c", 4))
        paper = layers(stock, "c", 4)
        self.assertEqual([len(layer) for layer in paper], [1, 36, 36 * 3, 36 * 3, 36])
        self.assertIs(bars_fewer(stock, "c", 4, 1000000000, paper), True)
        self.assertLess(time.monotonic() - start, 20)


class ChainDeeds(unittest.TestCase):
    def done(self, stock, name, at, numbers):
        """The deeds are as told; done at a copy none is refused, and all places are filled then."""
        told = stock_told(stock)
        kept = list(numbers)
        deeds = chain_deeds(stock, name, at, numbers)
        self.assertEqual(chain_deeds(numbers=numbers, at=at, name=name, stock=stock), deeds)
        self.assertIs(type(deeds), list)
        self.assertEqual(numbers, kept)
        wanted, empty = [], (name, at)
        for number in numbers[:-1]:
            place = stock.where(number)[1:]
            wanted += [("take",) + place, ("fill",) + empty + (number,)]
            empty = place
        self.assertEqual(deeds, wanted + [("fill",) + empty + (numbers[-1],)])
        other = stock.copied()
        for deed in deeds:
            other.do(deed)
        places = [(name, at)] + [stock.where(number)[1:] for number in numbers[:-1]]
        for number, place in zip(numbers, places):
            self.assertEqual(other.where(number), ("string",) + place)
        for bead in stock.beads():
            if bead.number not in numbers:
                self.assertEqual(other.where(bead.number), stock.where(bead.number))
        self.assertEqual(len(gaps_of(other)), len(gaps_of(stock)) - 1)
        self.assertEqual(stock_told(stock), told)
        deeds.append("more")
        self.assertEqual(chain_deeds(stock, name, at, numbers), deeds[:-1])

    def bad(self, stock, name, at, thing):
        told = stock_told(stock)
        for turn in range(2):
            with self.assertRaises(BadDeed, msg=repr(thing)) as caught:
                chain_deeds(stock, name, at, thing)
            self.assertIs(type(caught.exception), BadDeed)
            self.assertIsInstance(caught.exception, PearlError)
        self.assertEqual(stock_told(stock), told)

    def test_as_written(self):
        self.assertEqual(chain_deeds(chain_stock(0), "g", 0, [11]), [("fill", "g", 0, 11)])
        self.assertEqual(chain_deeds(chain_stock(2), "g", 0, [11, 13, 15]),
                         [("take", "a", 0), ("fill", "g", 0, 11), ("take", "b", 0), ("fill", "a", 0, 13),
                          ("fill", "b", 0, 15)])

    def test_through_so_many_strings(self):
        for strings in range(5):
            stock = chain_stock(strings)
            self.done(stock, "g", 0, list(range(11, 12 + 2 * strings, 2)))

    def test_a_bead_aside(self):
        stock = chain_stock(1)
        stock.do(("aside", 13))
        self.done(stock, "g", 0, [11, 13])

    def test_all_exchanges_by_chance(self):
        longest = 0
        for turn in range(120):
            chance = random.Random(turn)
            stock = stock_by_chance(chance) if turn % 2 == 0 else rising_by_chance(chance)
            for name, at in gaps_of(stock):
                exchanges = all_exchanges(stock, name, at)
                some = random.Random(turn).sample(exchanges, min(12, len(exchanges)))
                for numbers in some:
                    self.done(stock, name, at, numbers)
                    longest = max(longest, len(numbers))
                found = fewest(stock, name, at)
                if found is not None:
                    self.done(stock, name, at, found)
        self.assertGreaterEqual(longest, 5)

    def test_all_lists_of_a_small_stock(self):
        # Each list of up to three numbers is an exchange just where it is among all of them.
        for turn in (3, 5, 8, 13, 21, 34):
            stock = stock_by_chance(random.Random(turn), most_strings=3)
            numbers = [bead.number for bead in stock.beads()
                       if stock.where(bead.number)[0] != "sold"][:10] + [stock.beads()[0].number, 99]
            for name, at in gaps_of(stock)[:2]:
                exchanges = all_exchanges(stock, name, at)
                for many in range(4):
                    for told in itertools.product(numbers, repeat=many):
                        if list(told) in exchanges:
                            chain_deeds(stock, name, at, list(told))
                        else:
                            with self.assertRaises(BadDeed):
                                chain_deeds(stock, name, at, list(told))

    def test_a_number_that_is_wrong(self):
        stock = chain_stock(2)
        self.done(stock, "g", 0, [11, 13, 15])
        for numbers in [[], [11], [13], [15], [11, 13], [11, 15], [13, 15], [13, 11, 15], [15, 13, 11], [11, 15, 13],
                        [11, 13, 15, 15], [11, 11, 13, 15], [11, 13, 13, 15], [11, 12, 15], [12, 13, 15],
                        [11, 14, 15], [11, 13, 14], [11, 13, 10], [10, 13, 15], [10], [11, 13, 9], [9], [11, 13, 99],
                        [99], [0], [-1], [11, 99, 15], [11, 13, 15, 11], [15, 11, 13, 15], [11, 13, 10 ** 30]]:
            self.bad(stock, "g", 0, numbers)

    def test_a_free_one_ahead_of_the_last(self):
        rows = (row(1, 10), row(2, 10), row(3, 10), row(4, 11))
        stock = stock_of([("buy", "lot", rows), ("string", "g", (1, 2)), ("take", "g", 0)])
        self.done(stock, "g", 0, [1])
        self.done(stock, "g", 0, [3])
        for numbers in ([1, 3], [3, 1], [1, 1], [4, 3, 1]):
            self.bad(stock, "g", 0, numbers)

    def test_two_of_one_string(self):
        rows = tuple([row(number, 10) for number in range(1, 10)])
        stock = stock_of([("buy", "lot", rows), ("string", "g", (1, 2)), ("take", "g", 0), ("string", "a", (3, 4, 5)),
                          ("string", "b", (6, 7))])
        self.done(stock, "g", 0, [3, 8])
        self.done(stock, "g", 0, [5, 6, 1])
        self.bad(stock, "g", 0, [3, 4, 8])
        self.bad(stock, "g", 0, [3, 6, 4, 8])
        self.bad(stock, "g", 0, [6, 7, 8])
        self.bad(stock, "g", 0, [2, 8])
        self.bad(stock, "g", 0, [3, 2, 8])

    def test_of_whatever_kind(self):
        stock = chain_stock(1)
        self.done(stock, "g", 0, [11, 13])
        for thing in no_wholes() + [11, (11, 13), "11 13", {11: 13}, {11, 13}, [[11, 13]], [(11, 13)], [11, [13]],
                                    [[11], 13], [11, "13"], ["11", 13], [11, None], [None, 13], [11, 13.0],
                                    [11.0, 13], [True], [11, True], [True, 13], [{}], [11, {}], [Keyless()],
                                    [Keyless(), 13], [11, Keyless()], Keyless(), [11, {13}], Alike(), [Alike()],
                                    [11, Alike()], [Alike(), 13]]:
            self.bad(stock, "g", 0, thing)

    def test_a_truth_is_no_number(self):
        rows = (row(1, 10), row(2, 10), row(3, 11))
        stock = stock_of([("buy", "lot", rows), ("string", "g", (3, 2)), ("take", "g", 0)])
        self.done(stock, "g", 0, [1])
        self.bad(stock, "g", 0, [True])
        stock.do(("string", "a", (1,)))
        self.done(stock, "g", 0, [1, 3])
        self.bad(stock, "g", 0, [True, 3])


if __name__ == "__main__":
    unittest.main()
