"""[9.5], [9.6]: papers of layers, and what bars fewer."""

import copy
import random
import unittest

from pearlrise.exchange import fewest
from pearlrise.exchangepaper import bars_fewer, layers
from tests.stocks import (all_exchanges, chain_stock, fits, gaps_of, is_free, rising_by_chance, row, stock_by_chance,
                          stock_of)
from tests.things import Alike, Keyless, no_wholes, stock_told

BILLION = 1000000000


def plain_leads(stock, gap, told):
    """All rows to which a row leads, bead by bead."""
    name, at, givers = told
    found = []
    for bead in stock.beads():
        place = stock.where(bead.number)
        if place[0] == "string" and place[1] != gap[0] and place[1] not in givers:
            if fits(stock, name, at, bead.number):
                found.append((place[1], place[2], tuple(sorted(givers + (place[1],)))))
    return found


def has_free(stock, told):
    return any([is_free(stock, bead.number) and fits(stock, told[0], told[1], bead.number) for bead in stock.beads()])


def plain_layers(stock, name, at):
    """The paper, as [9.5] tells it."""
    paper = [[(name, at, ())]]
    while not any([has_free(stock, told) for told in paper[-1]]):
        further = sorted({found for told in paper[-1] for found in plain_leads(stock, (name, at), told)})
        if not further:
            break
        paper.append(further)
    return paper


def is_plain_row(stock, gap, told):
    if type(told) is not tuple or len(told) != 3 or type(told[2]) is not tuple:
        return False
    name, at, givers = told
    if type(name) is not str or type(at) is not int or any([type(giver) is not str for giver in givers]):
        return False
    if sorted(set(givers)) != list(givers) or gap[0] in givers or set(givers) - set(stock.strings()):
        return False
    if (name, at) == gap:
        return givers == ()
    if name not in stock.strings() or not 0 <= at < len(stock.string(name)) or stock.string(name)[at] is None:
        return False
    return name in givers


def plain_bars(stock, name, at, many, paper):
    """Whether a paper bars fewer, as [9.6] tells it."""
    if type(many) is not int or not 1 <= many <= BILLION or type(paper) is not list:
        return False
    for layer in paper:
        if type(layer) is not list or not all([is_plain_row(stock, (name, at), told) for told in layer]):
            return False
    if many > 1 and (not paper or (name, at, ()) not in paper[0]):
        return False
    # Behind the paper's last layer there is nothing to be asked.
    for k in range(1, min(many - 1, len(paper) + 2) + 1):
        layer = paper[k - 1] if k <= len(paper) else []
        behind = paper[k] if k + 1 <= len(paper) else []
        if any([has_free(stock, told) for told in layer]):
            return False
        if k < many - 1:
            for told in layer:
                if not set(plain_leads(stock, (name, at), told)) <= set(behind):
                    return False
    return True


def two_ways():
    """A stock with two strings through which the gap can be filled, by three beads, and givers in both orders.

    The gap is g 0; 11 of b and 12 of a fit it; each of the other's place fits the other one; the free 13 fits none
    of these, but c's, whose 14 fits both.
    """
    rows = tuple([row(number, across) for number, across in
                  [(9, 10), (10, 10), (11, 11), (1, 12), (12, 11), (2, 12), (14, 13), (3, 14), (13, 15)]])
    return stock_of([("buy", "lot", rows), ("string", "g", (9, 10)), ("take", "g", 0), ("string", "b", (11, 1)),
                     ("string", "a", (12, 2)), ("string", "c", (14, 3)), ("string", "z", (9,)), ("sell", "z")])


class Layers(unittest.TestCase):
    def tells(self, stock, name, at, paper):
        kept = stock_told(stock)
        for turn in range(2):
            found = layers(stock, name, at)
            self.assertEqual(found, paper)
            self.assertIs(type(found), list)
            for layer in found:
                self.assertIs(type(layer), list)
                for told in layer:
                    self.assertIs(type(told), tuple)
                    self.assertIs(type(told[2]), tuple)
            # What is done to what was told changes no later answer.
            found[0].append("more")
            found[0][0] = None
            found.append([])
        self.assertEqual(plain_layers(stock, name, at), paper)
        self.assertEqual(layers(at=at, name=name, stock=stock), paper)
        self.assertEqual(stock_told(stock), kept)

    def test_the_first_layer_alone(self):
        self.tells(chain_stock(0), "g", 0, [[("g", 0, ())]])
        stock = chain_stock(1)
        self.assertEqual(fewest(stock, "g", 0), [11, 13])
        stock = stock_of([("buy", "lot", (row(1, 10), row(2, 10), row(3, 10), row(4, 10))), ("string", "g", (1, 2)),
                          ("take", "g", 0), ("string", "a", (3, 4))])
        # A bead of another string fits, too, but a free one ends it.
        self.tells(stock, "g", 0, [[("g", 0, ())]])

    def test_several_layers(self):
        self.tells(chain_stock(3), "g", 0, [[("g", 0, ())], [("a", 0, ("a",))], [("b", 0, ("a", "b"))],
                                           [("c", 0, ("a", "b", "c"))]])
        self.tells(chain_stock(4), "g", 0, [[("g", 0, ())], [("a", 0, ("a",))], [("b", 0, ("a", "b"))],
                                           [("c", 0, ("a", "b", "c"))], [("d", 0, ("a", "b", "c", "d"))]])

    def test_rows_rising_each_once_givers_rising(self):
        stock = two_ways()
        self.tells(stock, "g", 0,
                   [[("g", 0, ())], [("a", 0, ("a",)), ("b", 0, ("b",))],
                    [("a", 0, ("a", "b")), ("a", 1, ("a", "b")), ("b", 0, ("a", "b")), ("b", 1, ("a", "b")),
                     ("c", 0, ("a", "c")), ("c", 0, ("b", "c"))]])
        self.assertEqual(fewest(stock, "g", 0), [11, 14, 13])

    def test_the_last_layer_where_no_exchange_is(self):
        for strings in range(5):
            paper = layers(chain_stock(strings), "g", 0)
            self.tells(chain_stock(strings, free=False), "g", 0, paper)
            self.assertEqual(len(paper), strings + 1)

    def test_one_string_alone(self):
        stock = stock_of([("buy", "lot", (row(1, 10), row(2, 10))), ("string", "g", (1, 2)), ("take", "g", 0),
                          ("string", "z", (1,)), ("sell", "z")])
        self.tells(stock, "g", 0, [[("g", 0, ())]])
        self.assertIsNone(fewest(stock, "g", 0))

    def test_held_against_the_words(self):
        for turn in range(240):
            chance = random.Random(turn)
            stock = stock_by_chance(chance) if turn % 2 == 0 else rising_by_chance(chance)
            for name, at in gaps_of(stock):
                self.tells(stock, name, at, plain_layers(stock, name, at))


class BarsFewer(unittest.TestCase):
    def says(self, truth, stock, name, at, many, paper):
        """bars_fewer says so, each time, and changes nothing."""
        kept = stock_told(stock)
        shown = repr(paper)
        for turn in range(2):
            self.assertIs(bars_fewer(stock, name, at, many, paper), truth, (many, paper))
        self.assertIs(bars_fewer(paper=paper, many=many, at=at, name=name, stock=stock), truth)
        self.assertEqual(repr(paper), shown)
        self.assertEqual(stock_told(stock), kept)

    def test_as_many_as_fewest_has(self):
        for strings in range(5):
            stock = chain_stock(strings)
            paper = layers(stock, "g", 0)
            many = len(fewest(stock, "g", 0))
            self.assertEqual(many, strings + 1)
            for less in range(1, many + 1):
                self.says(True, stock, "g", 0, less, paper)
            for more in (many + 1, many + 2, many + 9, BILLION):
                self.says(False, stock, "g", 0, more, paper)

    def test_any_many_where_there_is_no_exchange(self):
        for strings in range(5):
            stock = chain_stock(strings, free=False)
            paper = layers(stock, "g", 0)
            self.assertIsNone(fewest(stock, "g", 0))
            for many in list(range(1, 12)) + [1000, BILLION - 1, BILLION]:
                self.says(True, stock, "g", 0, many, paper)
                self.says(True, stock, "g", 0, many, paper + [[]])
                self.says(True, stock, "g", 0, many, paper + [[], [], []])

    def test_what_is_no_many(self):
        for stock in (chain_stock(2), chain_stock(2, free=False)):
            paper = layers(stock, "g", 0)
            self.says(True, stock, "g", 0, 1, paper)
            for many in no_wholes() + [0, -1, BILLION + 1, 10 ** 30, -10 ** 30, [1], (1,), {1: 1}, Keyless(), "1", 1.0]:
                self.says(False, stock, "g", 0, many, paper)

    def test_one_asks_for_rows_alone(self):
        stock = chain_stock(2)
        for paper in ([], [[]], [[], []], [[("g", 0, ())]], [[("a", 1, ("a",))]], [[("b", 0, ("a", "b"))] * 3, []]):
            self.says(True, stock, "g", 0, 1, paper)
        for paper in ([], [[]], [[], []], [[], [("g", 0, ())]], [[("a", 1, ("a",))]], [[], [], []]):
            self.says(False, stock, "g", 0, 2, paper)
            self.says(False, stock, "g", 0, 3, paper)

    def test_rows_in_any_order_and_more_than_once(self):
        stock = two_ways()
        paper = layers(stock, "g", 0)
        self.assertEqual([len(layer) for layer in paper], [1, 2, 6])
        for many in (1, 2, 3):
            self.says(True, stock, "g", 0, many, paper)
            self.says(True, stock, "g", 0, many, [layer[::-1] for layer in paper])
            self.says(True, stock, "g", 0, many, [layer + layer[:1] for layer in paper])
            self.says(True, stock, "g", 0, many, [layer * 3 for layer in paper])
        self.says(False, stock, "g", 0, 4, paper)
        # Of a paper by which three are barred the third layer is not asked for.
        self.says(True, stock, "g", 0, 3, paper[:2])
        self.says(False, stock, "g", 0, 3, paper[:1])
        self.says(True, stock, "g", 0, 2, paper[:1])

    def test_a_row_left_out(self):
        stock = chain_stock(4, free=False)
        paper = layers(stock, "g", 0)
        self.assertEqual(len(paper), 5)
        for at in range(5):
            less = paper[:at] + [[]] + paper[at + 1:]
            # The row is asked for from where its layer counts, and one layer behind where another leads there.
            for many in range(1, 9):
                self.says(many < (2 if at == 0 else at + 2), stock, "g", 0, many, less)
        stock = two_ways()
        paper = layers(stock, "g", 0)
        for left in range(2):
            less = [paper[0], paper[1][:left] + paper[1][left + 1:], paper[2]]
            self.says(True, stock, "g", 0, 2, less)
            self.says(False, stock, "g", 0, 3, less)

    def test_a_row_left_out_of_the_last_layer_that_counts(self):
        rows = tuple([row(number, across) for number, across in
                      [(9, 10), (10, 10), (11, 11), (1, 12), (12, 11), (2, 12), (14, 13), (3, 14)]])
        stock = stock_of([("buy", "lot", rows), ("string", "g", (9, 10)), ("take", "g", 0), ("string", "b", (11, 1)),
                          ("string", "a", (12, 2)), ("string", "c", (14, 3)), ("string", "z", (9,)), ("sell", "z")])
        paper = layers(stock, "g", 0)
        for many in (1, 2, 3, 4, 5, 6, BILLION):
            self.says(True, stock, "g", 0, many, paper)
        for at, layer in enumerate(paper):
            for left in range(len(layer)):
                less = copy.deepcopy(paper)
                del less[at][left]
                for many in range(1, 8):
                    self.says(plain_bars(stock, "g", 0, many, less), stock, "g", 0, many, less)
                self.says(False, stock, "g", 0, BILLION, less)

    def test_a_layer_left_out(self):
        stock = chain_stock(3, free=False)
        paper = layers(stock, "g", 0)
        for at in range(4):
            less = paper[:at] + paper[at + 1:]
            self.says(True, stock, "g", 0, 1, less)
            self.says(False, stock, "g", 0, BILLION, less)
            for many in range(1, 8):
                self.says(many < at + 2, stock, "g", 0, many, less)

    def test_a_row_put_in(self):
        stock = chain_stock(3)
        paper = layers(stock, "g", 0)
        # A free bead fits c's place at 0, so this row bars nothing wherever it counts.
        for at in range(4):
            more = copy.deepcopy(paper)
            more[at].append(("c", 0, ("c",)))
            for many in range(1, 6):
                self.says(many < at + 2 and many < 5, stock, "g", 0, many, more)
        # Nothing fits g's own row more than it does, and nothing leads on from where nothing fits.
        for at in range(4):
            more = copy.deepcopy(paper)
            more[at].append(("a", 1, ("a", "b", "c")))
            for many in range(1, 6):
                self.says(many < 5, stock, "g", 0, many, more)

    def test_a_row_put_in_that_leads_on(self):
        stock = chain_stock(3, free=False)
        paper = layers(stock, "g", 0)
        more = copy.deepcopy(paper)
        more[0].append(("a", 0, ("a",)))
        # To it leads b's row, which is not there one layer on.
        self.says(True, stock, "g", 0, 2, more)
        self.says(False, stock, "g", 0, 3, more)
        more[1].append(("b", 0, ("a", "b")))
        self.says(True, stock, "g", 0, 3, more)
        self.says(False, stock, "g", 0, 4, more)
        more[2].append(("c", 0, ("a", "b", "c")))
        for many in (3, 4, 5, BILLION):
            self.says(True, stock, "g", 0, many, more)

    def test_a_layer_put_in(self):
        stock = chain_stock(2, free=False)
        paper = layers(stock, "g", 0)
        self.says(True, stock, "g", 0, BILLION, paper)
        self.says(True, stock, "g", 0, BILLION, paper + [[("g", 0, ())]] + paper[1:])
        self.says(False, stock, "g", 0, BILLION, [[]] + paper)
        self.says(False, stock, "g", 0, BILLION, [paper[0]] + paper)
        self.says(True, stock, "g", 0, 2, [paper[0]] + paper)
        self.says(False, stock, "g", 0, BILLION, paper + [[("g", 0, ())]])
        self.says(True, stock, "g", 0, 4, paper + [[("g", 0, ())]])

    def wrong_rows(self):
        """Things that are no rows of a paper for the gap g 0, where a has 11 -, b 13 14, c - 16, e nothing but gaps."""
        right = ("b", 0, ("a", "b"))
        told = [right[:2], right + (1,), (), ("b",), list(right), [list(right)], "b", "b 0 a b", {right: 1}, {},
                {right}, (right,), right[::-1], (0, "b", ("a", "b")), ("b", "0", ("a", "b")), ("b", None, ("a", "b")),
                ("b", True, ("b",)), ("b", False, ("a", "b")), ("b", 0.0, ("a", "b")), ("b", [0], ("b",)),
                (None, 0, ()), ([], 0, ("b",)), ({}, 0, ()), (Keyless(), 0, ()), ("b", Keyless(), ("b",)),
                ("b", 0, Keyless()), ("b", 0, None), ("b", 0, "b"), ("b", 0, ["a", "b"]), ("b", 0, {"b"}),
                ("b", 0, {"b": 1}), ("b", 0, (0,)), ("b", 0, (["b"],)), ("b", 0, ("b", Keyless())),
                ("b", 0, (None, "b")), (b"b", 0, ("b",)), ("b", 0, (b"b",)), ("b", 0, (Alike(),)),
                ("b", 0, ("a", Alike())), (Alike(), 0, ("b",)), ("b", Alike(), ("b",)), ("g", 0, Alike()),
                ("g", Alike(), ()), (Alike(), 0, ())]
        told += [("v", 0, ("v",)), ("v", 0, ("b",)), ("z", 0, ("z",)), ("lot", 0, ("lot",)), ("", 0, ("",)),
                 ("b", 2, ("b",)), ("b", -1, ("b",)), ("b", 9, ("b",)), ("b", 10 ** 30, ("b",))]
        # A gap that is not the one asked for, on another string or on the gap's own.
        told += [("a", 1, ("a",)), ("c", 0, ("c",)), ("e", 0, ("e",)), ("e", 1, ("a", "e"))]
        # Of the gap's own string; givers out of order, twice, that there aren't; without its own name.
        told += [("g", 1, ()), ("g", 1, ("a",)), ("g", 1, ("g",)), ("g", 0, ("g",)), ("g", 2, ()), ("g", -1, ()),
                 ("g", 0, ("a",)), ("g", 0, ("a", "b")), ("g", False, ()), ("g", 0, []), ("g", 0, None),
                 ("b", 0, ("b", "a")), ("c", 1, ("c", "b")), ("b", 0, ("b", "b")), ("b", 0, ("a", "a", "b")),
                 ("b", 0, ("b", "g")), ("b", 0, ("a", "b", "g")), ("b", 0, ("b", "v")), ("b", 0, ("b", "z")),
                 ("b", 0, ("b", "lot")), ("b", 0, ("", "b")), ("b", 0, ()), ("b", 0, ("a",)), ("b", 0, ("a", "c")),
                 ("a", 0, ("b",))]
        return told + no_wholes() + [0, 7]

    def gappy(self, free):
        """Strings with gaps beside the one that is asked for, as wrong_rows has them."""
        rows = tuple([row(number, number) for number in range(9, 23)])
        deeds = [("buy", "lot", rows), ("string", "g", (9, 10)), ("take", "g", 0), ("string", "a", (11, 12)),
                 ("take", "a", 1), ("string", "b", (13, 14)), ("string", "c", (15, 16)), ("take", "c", 0),
                 ("string", "e", (21, 22)), ("take", "e", 0), ("take", "e", 1)]
        gone = [9] if free else [9, 12, 15, 17, 18, 19, 20, 21, 22]
        return stock_of(deeds + [deed for number in gone for deed in [("string", "z", (number,)), ("sell", "z")]])

    def test_wrong_rows(self):
        for stock in (self.gappy(True), self.gappy(False)):
            self.assertEqual(stock.string("a"), [11, None])
            self.assertEqual(stock.string("c"), [None, 16])
            self.assertEqual(stock.string("e"), [None, None])
            paper = layers(stock, "g", 0)
            many = BILLION if fewest(stock, "g", 0) is None else len(fewest(stock, "g", 0))
            self.says(True, stock, "g", 0, many, paper)
            for wrong in self.wrong_rows():
                self.says(False, stock, "g", 0, 1, [[wrong]])
                for at in range(len(paper)):
                    for asked in {1, 2, many}:
                        less = copy.copy(paper)
                        less[at] = paper[at] + [wrong]
                        self.says(False, stock, "g", 0, asked, less)
                        less[at] = [wrong] + paper[at]
                        self.says(False, stock, "g", 0, asked, less)
                # Also in a layer behind the last that is asked for.
                for asked in {1, 2, many}:
                    self.says(False, stock, "g", 0, asked, paper + [[wrong]])
                    self.says(False, stock, "g", 0, asked, paper + [[], [("b", 0, ("b",)), wrong]])

    def test_right_rows_beside_the_wrong_ones(self):
        # Givers may be any strings that there are, also one of gaps alone.
        stock = self.gappy(False)
        for right in [("b", 0, ("b",)), ("b", 1, ("a", "b")), ("b", 0, ("a", "b", "c", "e")), ("a", 0, ("a", "e")),
                      ("c", 1, ("c",)), ("g", 0, ())]:
            self.says(True, stock, "g", 0, 1, [[right]])
            self.says(True, stock, "g", 0, 2, [[("g", 0, ()), right]])

    def test_what_is_no_list(self):
        stock = chain_stock(1, free=False)
        paper = layers(stock, "g", 0)
        wrong = [thing for thing in no_wholes() if not isinstance(thing, list)]
        for many in (1, 2, 3, BILLION):
            self.says(True, stock, "g", 0, many, paper)
            for thing in wrong + [0, 7, tuple(paper), tuple([tuple(layer) for layer in paper]), repr(paper),
                                  dict(enumerate(paper)), Keyless()]:
                self.says(False, stock, "g", 0, many, thing)
            for thing in wrong + [0, 7, tuple(paper[0]), {paper[0][0]: 1}, {paper[0][0]}, paper[0][0], Keyless()]:
                self.says(False, stock, "g", 0, many, paper + [thing])
                self.says(False, stock, "g", 0, many, [thing] + paper)
                self.says(False, stock, "g", 0, many, [thing])
            self.says(False, stock, "g", 0, many, [paper])
            self.says(False, stock, "g", 0, many, paper[0])

    def test_the_paper_of_layers_by_chance(self):
        for turn in range(120):
            chance = random.Random(turn)
            stock = stock_by_chance(chance) if turn % 2 == 0 else rising_by_chance(chance)
            for name, at in gaps_of(stock):
                paper, found = layers(stock, name, at), fewest(stock, name, at)
                if found is None:
                    for many in (1, 2, 3, 6, BILLION):
                        self.assertIs(bars_fewer(stock, name, at, many, paper), True)
                else:
                    self.assertEqual(len(paper), len(found))
                    for many in range(1, 8):
                        self.assertIs(bars_fewer(stock, name, at, many, paper), many <= len(found))

    def changed(self, chance, stock, gap, paper):
        """A paper changed by chance at one to three places."""
        told = copy.deepcopy(paper)
        names = [name for name in stock.strings() if name != gap[0]]
        for turn in range(chance.randrange(1, 4)):
            layer = chance.choice(told)
            how = chance.randrange(6)
            if how == 0 and layer:
                layer.remove(chance.choice(layer))
            elif how == 1 and names:
                name = chance.choice(names)
                givers = {name} | set(chance.sample(names, chance.randrange(len(names))))
                layer.append((name, chance.randrange(len(stock.string(name))), tuple(sorted(givers))))
            elif how == 2 and layer:
                layer.append(chance.choice(layer))
            elif how == 3:
                told.append(list(chance.choice(told)))
            elif how == 4:
                chance.shuffle(layer)
            elif how == 5 and layer:
                one = chance.choice(layer)
                layer.append((one[0], one[1], one[2][:-1]))
        return told

    def test_papers_by_chance_against_the_words(self):
        seen = {}
        for turn in range(260):
            chance = random.Random(turn)
            stock = stock_by_chance(chance) if turn % 4 == 0 else rising_by_chance(chance)
            for name, at in gaps_of(stock):
                exchanges = all_exchanges(stock, name, at)
                least = min([len(numbers) for numbers in exchanges], default=None)
                for step in range(6):
                    paper = self.changed(chance, stock, (name, at), layers(stock, name, at))
                    many = chance.choice([1, 2, 2, 3, 3, 4, 5, 6, BILLION])
                    truth = plain_bars(stock, name, at, many, paper)
                    self.assertIs(bars_fewer(stock, name, at, many, paper), truth, (turn, name, at, many, paper))
                    # Whoever wrote the paper, what it bars there isn't.
                    if truth and least is not None:
                        self.assertGreaterEqual(least, many)
                    key = (truth, min(many, 5))
                    seen[key] = seen.get(key, 0) + 1
        for truth in (True, False):
            for many in range(1, 6):
                self.assertGreater(seen.get((truth, many), 0), 5, seen)


if __name__ == "__main__":
    unittest.main()
