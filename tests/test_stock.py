"""[8.1] to [8.4]: the stock."""

import random
import unittest

from pearlrise.beads import Bead
from pearlrise.errors import BadDeed, Elsewhere, Known, NoPlace, NoSuch, NotLet
from pearlrise.rules import Rule, barred
from pearlrise.stock import Stock
from tests.things import Alike, Keyless, fields_in, no_names, no_wholes, stock_told

RULE = Rule(least=1, most=3, match=1, shades=True)


def row(number, across, shade="rose"):
    return (number, across, 10, shade, "round", False)


AB = (row(1, 5), row(2, 7), row(3, 5), row(4, 7), row(5, 9), row(6, 9, "white"))
CD = (row(13, 6), row(12, 7), row(11, 5), row(14, 8, "white"), row(16, 5, "white"), row(15, 12))
BUYS = [("buy", "ab", AB), ("buy", "cd", CD)]


def stock_of(deeds, rule=RULE):
    """A stock that has done deeds."""
    stock = Stock(rule)
    for deed in deeds:
        stock.do(deed)
    return stock


def filled_stock():
    """A stock with beads at places of each kind.

    String x has 1 2 3, y has 11 - 13, z was sold with 4 (so 4 is sold); 5 and 12 are aside; all others in their lots.
    """
    return stock_of(BUYS + [("string", "x", (1, 2, 3)), ("string", "y", (11, 12, 13)), ("take", "y", 1),
                            ("string", "z", (4,)), ("sell", "z"), ("aside", 5)])


class DeedsDone(unittest.TestCase):
    def does(self, stock, deed, moved):
        """A deed tells what it moved, each bead is there then, and moves has it behind what it had."""
        ahead = stock.moves()
        told = stock.do(deed)
        self.assertIs(type(told), list)
        self.assertEqual(told, moved)
        for part in told:
            self.assertIs(type(part), tuple)
            self.assertIs(type(part[1]), tuple)
            self.assertIs(type(part[2]), tuple)
            self.assertEqual(stock.where(part[0]), part[2])
        self.assertEqual(stock.moves(), ahead + moved)

    def test_buy(self):
        stock = Stock(RULE)
        self.does(stock, BUYS[0], [(number, ("new",), ("lot", "ab")) for number in (1, 2, 3, 4, 5, 6)])
        self.does(stock, BUYS[1], [(number, ("new",), ("lot", "cd")) for number in (13, 12, 11, 14, 16, 15)])
        self.assertEqual(stock.of("ab"), [1, 2, 3, 4, 5, 6])
        self.assertEqual(stock.of("cd"), [11, 12, 13, 14, 15, 16])
        self.assertEqual([bead.row() for bead in stock.beads()], sorted(AB + CD))
        self.assertIs(type(stock.bead(6)), Bead)
        self.assertEqual(stock.bead(6).row(), row(6, 9, "white"))

    def test_buy_forty(self):
        stock = Stock(RULE)
        rows = tuple([(number, 5, 5, "rose", "oval", True) for number in range(1000000000, 999999960, -1)])
        self.does(stock, ("buy", "ab", rows), [(told[0], ("new",), ("lot", "ab")) for told in rows])
        self.assertEqual(stock.of("ab"), list(range(999999961, 1000000001)))
        self.assertEqual([bead.number for bead in stock.beads()], list(range(999999961, 1000000001)))

    def test_buy_beads_alike_but_for_their_numbers(self):
        stock = stock_of([("buy", "ab", (row(3, 5), row(1, 5))), ("buy", "cd", (row(2, 5),))])
        self.assertEqual([stock.bead(number).number for number in (1, 2, 3)], [1, 2, 3])
        self.assertEqual([stock.where(number) for number in (1, 2, 3)], [("lot", "ab"), ("lot", "cd"), ("lot", "ab")])

    def test_string_of_several_lots_and_of_beads_aside(self):
        stock = stock_of(BUYS + [("aside", 2), ("aside", 13)])
        self.does(stock, ("string", "x", (1, 2, 13)),
                  [(1, ("lot", "ab"), ("string", "x", 0)), (2, ("aside",), ("string", "x", 1)),
                   (13, ("aside",), ("string", "x", 2))])
        self.does(stock, ("string", "y", (11, 4, 3)),
                  [(11, ("lot", "cd"), ("string", "y", 0)), (4, ("lot", "ab"), ("string", "y", 1)),
                   (3, ("lot", "ab"), ("string", "y", 2))])
        self.assertEqual(stock.string("x"), [1, 2, 13])
        self.assertEqual(stock.string("y"), [11, 4, 3])
        self.assertEqual(stock.of("ab"), [5, 6])
        self.assertEqual(stock.of("cd"), [12, 14, 15, 16])
        self.assertEqual(stock.aside(), [])

    def test_string_of_one_and_of_nine(self):
        rows = tuple([row(number, 10 + min(number, 10 - number)) for number in range(1, 10)])
        stock = stock_of([("buy", "ab", rows)])
        self.does(stock, ("string", "x", tuple(range(9, 0, -1))),
                  [(number, ("lot", "ab"), ("string", "x", 9 - number)) for number in range(9, 0, -1)])
        stock = stock_of([("buy", "ab", rows)])
        self.does(stock, ("string", "string", (7,)), [(7, ("lot", "ab"), ("string", "string", 0))])

    def test_break(self):
        stock = filled_stock()
        self.does(stock, ("break", "x"), [(1, ("string", "x", 0), ("aside",)), (2, ("string", "x", 1), ("aside",)),
                                          (3, ("string", "x", 2), ("aside",))])
        self.assertEqual(stock.strings(), ["y"])
        self.does(stock, ("break", "y"), [(11, ("string", "y", 0), ("aside",)), (13, ("string", "y", 2), ("aside",))])
        self.assertEqual(stock.strings(), [])
        self.assertEqual(stock.aside(), [1, 2, 3, 5, 11, 12, 13])

    def test_break_where_all_beads_are_taken(self):
        stock = stock_of(BUYS + [("string", "x", (1,)), ("take", "x", 0)])
        self.assertEqual(stock.string("x"), [None])
        self.does(stock, ("break", "x"), [])
        self.assertEqual(stock.strings(), [])

    def test_sell(self):
        stock = filled_stock()
        self.does(stock, ("sell", "x"), [(1, ("string", "x", 0), ("sold", "x")), (2, ("string", "x", 1), ("sold", "x")),
                                         (3, ("string", "x", 2), ("sold", "x"))])
        self.assertEqual(stock.sold(), [1, 2, 3, 4])
        self.assertEqual(stock.where(4), ("sold", "z"))
        self.assertEqual(stock.strings(), ["y"])
        self.assertEqual([bead.number for bead in stock.beads()], [1, 2, 3, 4, 5, 6, 11, 12, 13, 14, 15, 16])

    def test_take_and_fill(self):
        stock = filled_stock()
        self.does(stock, ("take", "x", 2), [(3, ("string", "x", 2), ("aside",))])
        self.does(stock, ("take", "x", 0), [(1, ("string", "x", 0), ("aside",))])
        self.assertEqual(stock.string("x"), [None, 2, None])
        self.does(stock, ("take", "y", 0), [(11, ("string", "y", 0), ("aside",))])
        self.does(stock, ("fill", "x", 2, 11), [(11, ("aside",), ("string", "x", 2))])
        self.assertEqual(stock.string("x"), [None, 2, 11])
        self.does(stock, ("back", 3), [(3, ("aside",), ("lot", "ab"))])
        self.does(stock, ("fill", "x", 0, 3), [(3, ("lot", "ab"), ("string", "x", 0))])
        self.assertEqual(stock.string("x"), [3, 2, 11])
        self.assertEqual(stock.string("y"), [None, None, 13])
        self.assertEqual(stock.aside(), [1, 5, 12])

    def test_aside_and_back(self):
        stock = filled_stock()
        self.does(stock, ("aside", 15), [(15, ("lot", "cd"), ("aside",))])
        self.does(stock, ("back", 12), [(12, ("aside",), ("lot", "cd"))])
        self.does(stock, ("back", 5), [(5, ("aside",), ("lot", "ab"))])
        self.assertEqual(stock.aside(), [15])
        self.assertEqual(stock.of("ab"), [5, 6])
        self.assertEqual(stock.of("cd"), [12, 14, 16])

    def test_back_goes_to_the_lot_with_which_it_came(self):
        stock = stock_of(BUYS + [("string", "cd", (1, 12, 13)), ("break", "cd")])
        self.does(stock, ("back", 1), [(1, ("aside",), ("lot", "ab"))])
        self.does(stock, ("back", 13), [(13, ("aside",), ("lot", "cd"))])

    def test_a_name_made_anew_behind_a_break_and_a_sale(self):
        stock = stock_of(BUYS + [("string", "x", (1, 2, 3)), ("break", "x")])
        self.does(stock, ("string", "x", (3,)), [(3, ("aside",), ("string", "x", 0))])
        self.assertEqual(stock.string("x"), [3])
        self.does(stock, ("sell", "x"), [(3, ("string", "x", 0), ("sold", "x"))])
        self.does(stock, ("string", "x", (1, 11)), [(1, ("aside",), ("string", "x", 0)),
                                                    (11, ("lot", "cd"), ("string", "x", 1))])
        self.assertEqual(stock.string("x"), [1, 11])
        self.does(stock, ("sell", "x"), [(1, ("string", "x", 0), ("sold", "x")),
                                         (11, ("string", "x", 1), ("sold", "x"))])
        self.assertEqual(stock.sold(), [1, 3, 11])
        self.assertEqual([stock.where(number) for number in (1, 3, 11)], [("sold", "x")] * 3)

    def test_a_lot_and_a_string_of_one_name(self):
        stock = stock_of(BUYS + [("string", "ab", (1, 2, 3)), ("string", "cd", (11, 12, 13))])
        self.assertEqual(stock.string("ab"), [1, 2, 3])
        self.assertEqual(stock.of("ab"), [4, 5, 6])
        stock.do(("sell", "ab"))
        self.assertEqual(stock.of("ab"), [4, 5, 6])
        self.assertEqual(stock.lots(), ["ab", "cd"])
        with self.assertRaises(NoSuch):
            stock.string("ab")

    def test_the_same_round_a_second_time(self):
        stock = stock_of(BUYS)
        ahead = stock_told(stock)
        deeds = [("aside", 2), ("string", "x", (1, 2, 13)), ("take", "x", 1), ("fill", "x", 1, 4), ("break", "x"),
                 ("back", 1), ("back", 4), ("back", 13), ("back", 2)]
        first = [stock.do(deed) for deed in deeds]
        between = stock_told(stock)
        second = [stock.do(deed) for deed in deeds]
        self.assertEqual(first, second)
        behind = stock_told(stock)
        for told in (ahead, between, behind):
            del told["moves"]
        self.assertEqual(ahead, between)
        self.assertEqual(ahead, behind)
        self.assertEqual(stock.moves()[12:], [part for told in first + second for part in told])

    def test_several_strings_of_one_lot(self):
        stock = stock_of(BUYS + [("string", "b", (1, 2, 3)), ("string", "a", (4,)), ("string", "c", (5,))])
        self.assertEqual(stock.strings(), ["a", "b", "c"])
        self.assertEqual([stock.string(name) for name in "abc"], [[4], [1, 2, 3], [5]])
        self.assertEqual(stock.of("ab"), [6])
        stock.do(("sell", "a"))
        stock.do(("break", "c"))
        self.assertEqual(stock.string("b"), [1, 2, 3])
        self.assertEqual([stock.where(number) for number in (1, 2, 3, 4, 5, 6)],
                         [("string", "b", 0), ("string", "b", 1), ("string", "b", 2), ("sold", "a"), ("aside",),
                          ("lot", "ab")])

    def test_arguments_by_name(self):
        stock = Stock(rule=RULE)
        stock.do(deed=BUYS[0])
        stock.do(deed=("string", "x", (1, 2, 3)))
        self.assertEqual(stock.bead(number=2).row(), row(2, 7))
        self.assertEqual(stock.where(number=2), ("string", "x", 1))
        self.assertEqual(stock.of(lot="ab"), [4, 5, 6])
        self.assertEqual(stock.string(name="x"), [1, 2, 3])


class DeedsRefused(unittest.TestCase):
    def refused(self, deed, kind, *fields, stock=None):
        """A deed is refused, twice alike, and nothing is changed."""
        if stock is None:
            stock = filled_stock()
        told = stock_told(stock)
        for turn in range(2):
            with self.assertRaises(kind, msg=repr(deed)) as caught:
                stock.do(deed)
            self.assertIs(type(caught.exception), kind, deed)
            self.assertEqual(fields_in(caught.exception), list(fields), deed)
            self.assertEqual(stock_told(stock), told, deed)

    def test_no_deed(self):
        for thing in no_wholes() + [7, "break x", ["break", "x"], ("break",), ("break", "x", "y"), ("Break", "x"),
                                    ("string", "v", [4]), ("string", "v", (5, 5)), ("aside", True), ("back", 0),
                                    ("fill", "y", -1, 5), ("take", "x", None), ("buy", "ef", ()), Keyless(),
                                    (Keyless(), "x"), ([], "x"), ("break", Keyless()), ("take", "x", {}),
                                    ("fill", "y", 1, [5]), ("string", "v", ([],)), ("buy", "ef", ([],)),
                                    ("buy", "ef", ({},)), ("buy", "ef", ((20, 5, 5, [], "round", False),)), Alike(),
                                    (Alike(), "x"), ("break", Alike()), ("take", "x", Alike())]:
            self.refused(thing, BadDeed)
        for name in no_names():
            self.refused(("break", name), BadDeed)

    def test_no_deed_ahead_of_all(self):
        for deed in [("string", "x", (99, 99)), ("string", "x", (1, 1)), ("take", "v", -1), ("take", "x", True),
                     ("fill", "v", True, 99), ("fill", "x", 9, 0), ("buy", "ab", AB + AB), ("buy", "ab", AB + ((),)),
                     ("buy", "ab", ()), ("aside", 0), ("back", 1000000001), ("sell", "V"), ("break", "v", 1),
                     ("string", "v", (5,) + tuple(range(100, 109)))]:
            self.refused(deed, BadDeed)

    def test_no_such_string(self):
        for deed in [("break", "v"), ("sell", "v"), ("take", "v", 0), ("fill", "v", 0, 5), ("break", "z"),
                     ("sell", "z"), ("take", "z", 0), ("fill", "z", 0, 5), ("break", "ab"), ("sell", "cd")]:
            self.refused(deed, NoSuch, "string", deed[1])

    def test_no_such_bead(self):
        for deed, number in [(("string", "v", (99,)), 99), (("string", "v", (5, 98, 97)), 98),
                             (("string", "v", (97, 98)), 97), (("fill", "y", 1, 99), 99), (("aside", 7), 7),
                             (("back", 1000000000), 1000000000)]:
            self.refused(deed, NoSuch, "bead", number)

    def test_a_string_that_is_not_there_ahead_of_a_bead(self):
        self.refused(("fill", "v", 0, 99), NoSuch, "string", "v")
        self.refused(("fill", "v", 99, 1), NoSuch, "string", "v")
        self.refused(("take", "v", 99), NoSuch, "string", "v")

    def test_no_such_ahead_of_known(self):
        self.refused(("string", "x", (5, 99)), NoSuch, "bead", 99)
        self.refused(("string", "x", (99, 5)), NoSuch, "bead", 99)

    def test_no_such_ahead_of_elsewhere(self):
        self.refused(("string", "v", (1, 4, 99)), NoSuch, "bead", 99)
        self.refused(("fill", "v", 0, 1), NoSuch, "string", "v")

    def test_no_such_ahead_of_no_place_and_not_let(self):
        self.refused(("fill", "y", 0, 99), NoSuch, "bead", 99)
        self.refused(("fill", "y", 3, 99), NoSuch, "bead", 99)
        self.refused(("string", "v", (15, 5, 99)), NoSuch, "bead", 99)

    def test_known_lot(self):
        self.refused(("buy", "ab", (row(20, 5),)), Known, "lot", "ab")
        self.refused(("buy", "cd", (row(20, 5), row(21, 5))), Known, "lot", "cd")
        # A lot is known behind all of its beads are gone from it, too.
        stock = stock_of([("buy", "ab", (row(1, 5),)), ("string", "x", (1,)), ("sell", "x")])
        self.refused(("buy", "ab", (row(2, 5),)), Known, "lot", "ab", stock=stock)

    def test_known_bead(self):
        self.refused(("buy", "ef", (row(20, 5), row(6, 5))), Known, "bead", 6)
        self.refused(("buy", "ef", (row(20, 5), row(13, 5), row(1, 5))), Known, "bead", 13)
        for number in (1, 4, 5, 6, 11):
            self.refused(("buy", "ef", (row(number, 5),)), Known, "bead", number)
        self.refused(("buy", "ab", (row(1, 5),)), Known, "lot", "ab")

    def test_known_string(self):
        self.refused(("string", "x", (5,)), Known, "string", "x")
        self.refused(("string", "y", (6, 14)), Known, "string", "y")

    def test_known_ahead_of_elsewhere_and_not_let(self):
        self.refused(("string", "x", (1, 2, 3)), Known, "string", "x")
        self.refused(("string", "y", (4,)), Known, "string", "y")
        self.refused(("string", "x", (5, 6)), Known, "string", "x")

    def test_elsewhere(self):
        for number, place in [(1, ("string", "x", 0)), (2, ("string", "x", 1)), (13, ("string", "y", 2)),
                              (4, ("sold", "z"))]:
            self.refused(("string", "v", (number,)), Elsewhere, number, place)
            self.refused(("string", "v", (5, number)), Elsewhere, number, place)
            self.refused(("fill", "y", 1, number), Elsewhere, number, place)
            self.refused(("aside", number), Elsewhere, number, place)
            self.refused(("back", number), Elsewhere, number, place)
        self.refused(("aside", 5), Elsewhere, 5, ("aside",))
        self.refused(("back", 6), Elsewhere, 6, ("lot", "ab"))
        self.refused(("back", 14), Elsewhere, 14, ("lot", "cd"))

    def test_the_first_of_several_elsewhere(self):
        self.refused(("string", "v", (5, 4, 1, 11)), Elsewhere, 4, ("sold", "z"))
        self.refused(("string", "v", (11, 1, 4)), Elsewhere, 11, ("string", "y", 0))

    def test_elsewhere_ahead_of_no_place_and_not_let(self):
        self.refused(("fill", "y", 0, 1), Elsewhere, 1, ("string", "x", 0))
        self.refused(("fill", "y", 3, 4), Elsewhere, 4, ("sold", "z"))
        self.refused(("fill", "y", 1, 11), Elsewhere, 11, ("string", "y", 0))
        self.refused(("string", "v", (5, 6, 1)), Elsewhere, 1, ("string", "x", 0))

    def test_no_place(self):
        for at in (3, 4, 9, 10 ** 30):
            self.refused(("take", "x", at), NoPlace, at)
            self.refused(("fill", "y", at, 12), NoPlace, at)
        self.refused(("take", "y", 1), NoPlace, 1)
        for at in (0, 2):
            self.refused(("fill", "y", at, 12), NoPlace, at)
        self.refused(("fill", "x", 1, 12), NoPlace, 1)

    def test_no_place_ahead_of_not_let(self):
        self.refused(("fill", "x", 1, 15), NoPlace, 1)
        self.refused(("fill", "y", 0, 14), NoPlace, 0)

    def test_the_first_gap_of_what_is_sold(self):
        self.refused(("sell", "y"), NoPlace, 1)
        for taken, first in [((0,), 0), ((2, 0), 0), ((2,), 2), ((2, 1), 1), ((0, 1, 2), 0)]:
            stock = stock_of(BUYS + [("string", "x", (1, 2, 3))] + [("take", "x", at) for at in taken])
            self.refused(("sell", "x"), NoPlace, first, stock=stock)

    def test_not_let_of_a_string_to_be_made(self):
        for numbers, at, why in [((5, 12), 1, "match"), ((5, 6), 1, "shade"), ((5, 15, 6), 2, "shade"),
                                 ((12, 6, 5), 2, "step"), ((12, 15), 1, "match"), ((5, 12, 6), 1, "step"),
                                 ((16, 15, 6), 1, "step")]:
            self.refused(("string", "v", numbers), NotLet, at, why)

    def test_not_let_of_a_string_to_be_filled(self):
        self.refused(("fill", "y", 1, 15), NotLet, 1, "step")
        stock = filled_stock()
        stock.do(("take", "x", 0))
        self.refused(("fill", "x", 0, 6), NotLet, 1, "step", stock=stock)
        self.refused(("fill", "x", 0, 16), NotLet, 2, "shade", stock=stock)
        stock.do(("take", "x", 1))
        self.refused(("fill", "x", 0, 5), NotLet, 2, "match", stock=stock)

    def test_not_let_with_other_gaps(self):
        rows = (row(1, 5), row(2, 6), row(3, 7), row(4, 6), row(5, 5), row(6, 9), row(7, 6, "white"))
        stock = stock_of([("buy", "ab", rows), ("string", "x", (1, 2, 3, 4, 5))])
        for at in (0, 1, 3):
            stock.do(("take", "x", at))
        self.assertEqual(stock.string("x"), [None, None, 3, None, 5])
        # A gap bars nothing beside it, so the ones that would be barred by a bead there are let by.
        self.refused(("fill", "x", 3, 6), NotLet, 3, "step", stock=stock)
        self.refused(("fill", "x", 1, 6), NotLet, 2, "step", stock=stock)
        self.assertEqual(stock.do(("fill", "x", 3, 7)), [(7, ("lot", "ab"), ("string", "x", 3))])
        self.refused(("fill", "x", 1, 2), NotLet, 3, "shade", stock=stock)
        self.refused(("sell", "x"), NoPlace, 0, stock=stock)

    def test_the_reason_is_that_of_the_rule(self):
        wide = Rule(0, 1000000, 1000000, False)
        stock = stock_of(BUYS, wide)
        self.assertEqual(len(stock.do(("string", "v", (1, 15, 6, 16)))), 4)
        stock = stock_of(BUYS, Rule(0, 0, 0, True))
        self.refused(("string", "v", (1, 2, 3)), NotLet, 1, "step", stock=stock)
        self.assertEqual(len(stock.do(("string", "v", (1, 3, 11)))), 3)

    def test_refused_of_an_empty_stock(self):
        stock = Stock(RULE)
        self.refused(("break", "x"), NoSuch, "string", "x", stock=stock)
        self.refused(("aside", 1), NoSuch, "bead", 1, stock=stock)
        self.refused(("string", "x", (2, 1)), NoSuch, "bead", 2, stock=stock)


class Told(unittest.TestCase):
    def test_nothing(self):
        stock = Stock(RULE)
        for told in (stock.lots(), stock.strings(), stock.aside(), stock.sold(), stock.beads(), stock.moves()):
            self.assertIs(type(told), list)
            self.assertEqual(told, [])

    def test_all_of_it(self):
        stock = filled_stock()
        self.assertEqual(stock.lots(), ["ab", "cd"])
        self.assertEqual(stock.of("ab"), [6])
        self.assertEqual(stock.of("cd"), [14, 15, 16])
        self.assertEqual(stock.strings(), ["x", "y"])
        self.assertEqual(stock.string("x"), [1, 2, 3])
        self.assertEqual(stock.string("y"), [11, None, 13])
        self.assertEqual(stock.aside(), [5, 12])
        self.assertEqual(stock.sold(), [4])
        self.assertEqual([bead.row() for bead in stock.beads()], sorted(AB + CD))
        self.assertEqual(len(stock.moves()), 12 + 3 + 3 + 1 + 1 + 1 + 1)
        self.assertEqual(stock.moves()[-4:], [(12, ("string", "y", 1), ("aside",)),
                                              (4, ("lot", "ab"), ("string", "z", 0)),
                                              (4, ("string", "z", 0), ("sold", "z")), (5, ("lot", "ab"), ("aside",))])

    def test_orders(self):
        stock = stock_of([("buy", "z", (row(9, 5), row(2, 5), row(30, 5))), ("buy", "a", (row(8, 5), row(1, 5))),
                          ("buy", "m", (row(7, 5),))])
        self.assertEqual(stock.lots(), ["z", "a", "m"])
        self.assertEqual(stock.of("z"), [2, 9, 30])
        self.assertEqual([bead.number for bead in stock.beads()], [1, 2, 7, 8, 9, 30])
        for number in (9, 1, 8):
            stock.do(("aside", number))
        self.assertEqual(stock.aside(), [1, 8, 9])
        for name, number in [("y", 30), ("b", 2), ("ba", 7)]:
            stock.do(("string", name, (number,)))
        self.assertEqual(stock.strings(), ["b", "ba", "y"])
        for name in ("y", "ba", "b"):
            stock.do(("sell", name))
        self.assertEqual(stock.sold(), [2, 7, 30])
        self.assertEqual(stock.of("z"), [])

    def test_no_such(self):
        stock = filled_stock()
        asked = [(stock.bead, "bead", (7, 99, 0, -1, 10 ** 30)), (stock.where, "bead", (7, 99, 0, -1, 10 ** 30)),
                 (stock.of, "lot", ("x", "ef", "a")), (stock.string, "string", ("z", "ab", "v"))]
        told = stock_told(stock)
        for function, kind, names in asked:
            for name in names:
                with self.assertRaises(NoSuch) as caught:
                    function(name)
                self.assertEqual(fields_in(caught.exception), [kind, name])
        self.assertEqual(stock_told(stock), told)

    def test_what_is_told_is_the_askers_own(self):
        stock = filled_stock()
        kept = stock_told(stock)
        moved = stock.do(("aside", 6))
        told = stock_told(stock)
        moved.append("more")
        moved[0] = None
        for some in (stock.lots(), stock.of("ab"), stock.of("cd"), stock.strings(), stock.string("x"),
                     stock.string("y"), stock.aside(), stock.sold(), stock.beads(), stock.moves()):
            some.append("more")
            some[0] = None
            some.reverse()
        self.assertEqual(stock_told(stock), told)
        self.assertNotEqual(kept, told)
        stock.string("y")[1] = 12
        self.assertEqual(stock.string("y"), [11, None, 13])

    def test_copied(self):
        stock = filled_stock()
        other = stock.copied()
        self.assertIs(type(other), Stock)
        self.assertIsNot(other, stock)
        self.assertEqual(stock_told(other), stock_told(stock))

    def test_copies_go_on_by_themselves(self):
        deeds = [("buy", "ef", (row(20, 5),)), ("string", "v", (6,)), ("break", "x"), ("take", "y", 0),
                 ("fill", "y", 1, 12), ("aside", 15), ("back", 5), ("sell", "x")]
        for deed in deeds:
            for turn in range(3):
                stocks = [filled_stock()]
                stocks.append(stocks[0].copied())
                stocks.append(stocks[1].copied())
                told = stock_told(stocks[0])
                stocks[turn].do(deed)
                for at, stock in enumerate(stocks):
                    if at != turn:
                        self.assertEqual(stock_told(stock), told, deed)
                    else:
                        self.assertNotEqual(stock_told(stock), told, deed)
                # The others still do it, and stand alike then.
                for at, stock in enumerate(stocks):
                    if at != turn:
                        stock.do(deed)
                        self.assertEqual(stock_told(stock), stock_told(stocks[turn]), deed)

    def test_copies_that_buy_one_number_with_several_lots(self):
        stock = filled_stock()
        others = [stock.copied(), stock.copied().copied()]
        for name, some in zip(["ef", "gh", "ij"], [stock] + others):
            some.do(("buy", name, (row(20, 5),)))
            some.do(("aside", 20))
        for name, some in zip(["ef", "gh", "ij"], [stock] + others):
            self.assertEqual(some.do(("back", 20)), [(20, ("aside",), ("lot", name))])
            self.assertEqual(some.lots(), ["ab", "cd", name])

    def test_a_copy_is_by_the_same_rule(self):
        stock = stock_of(BUYS, Rule(0, 1000000, 1000000, False)).copied().copied()
        self.assertEqual(len(stock.do(("string", "v", (1, 15, 6, 16)))), 4)
        with self.assertRaises(NotLet):
            stock_of(BUYS).copied().do(("string", "v", (1, 15, 6, 16)))


class Plain:
    """A stock kept another way: all that was moved, from which the places are told again each time."""

    def __init__(self, rule):
        self.rule, self.rows, self.bought, self.lot_of, self.moved, self.sizes = rule, {}, [], {}, [], {}

    def place(self, number):
        return [to for moved, start, to in self.moved if moved == number][-1]

    def string(self, name):
        row = [None] * self.sizes[name]
        for number in self.rows:
            if self.place(number)[:2] == ("string", name):
                row[self.place(number)[2]] = number
        return row

    def let(self, numbers):
        beads = [None if number is None else Bead(*self.rows[number]) for number in numbers]
        found = barred(beads, self.rule)
        return [] if found is None else [(NotLet,) + found]

    def reasons(self, deed):
        """All reasons to refuse a deed, in their order, as far as they can be told."""
        word = deed[0]
        numbers = {"string": deed[-1:], "fill": deed[-1:], "aside": deed[1:], "back": deed[1:]}.get(word, ())
        numbers = deed[2] if word == "string" else numbers
        told = []
        if word in ("break", "sell", "take", "fill") and deed[1] not in self.sizes:
            told.append((NoSuch, "string", deed[1]))
        told += [(NoSuch, "bead", number) for number in numbers if number not in self.rows]
        if told:
            return told
        if word == "buy":
            told += [(Known, "lot", deed[1])] if deed[1] in self.bought else []
            told += [(Known, "bead", row[0]) for row in deed[2] if row[0] in self.rows]
        if word == "string" and deed[1] in self.sizes:
            told.append((Known, "string", deed[1]))
        allowed = {"aside": ["lot"], "back": ["aside"]}.get(word, ["lot", "aside"])
        told += [(Elsewhere, number, self.place(number)) for number in numbers if self.place(number)[0] not in allowed]
        if told:
            return told
        if word == "sell":
            told += [(NoPlace, at) for at, number in enumerate(self.string(deed[1])) if number is None]
        if word in ("take", "fill"):
            row = dict(enumerate(self.string(deed[1])))
            if deed[2] not in row or (row[deed[2]] is None and word == "take"):
                return [(NoPlace, deed[2])]
            if word == "fill" and row[deed[2]] is not None:
                return [(NoPlace, deed[2])]
        if word == "string":
            told += self.let(deed[2])
        if word == "fill":
            row = self.string(deed[1])
            row[deed[2]] = deed[3]
            told += self.let(row)
        return told

    def do(self, deed):
        word, name = deed[0], deed[1]
        if word == "buy":
            self.bought.append(name)
            self.rows.update({row[0]: row for row in deed[2]})
            self.lot_of.update({row[0]: name for row in deed[2]})
            moved = [(row[0], ("new",), ("lot", name)) for row in deed[2]]
        elif word == "string":
            self.sizes[name] = len(deed[2])
            moved = [(number, self.place(number), ("string", name, at)) for at, number in enumerate(deed[2])]
        elif word in ("break", "sell"):
            to = ("aside",) if word == "break" else ("sold", name)
            moved = [(number, ("string", name, at), to) for at, number in enumerate(self.string(name))
                     if number is not None]
            del self.sizes[name]
        elif word == "take":
            moved = [(self.string(name)[deed[2]], ("string", name, deed[2]), ("aside",))]
        elif word == "fill":
            moved = [(deed[3], self.place(deed[3]), ("string", name, deed[2]))]
        elif word == "aside":
            moved = [(name, ("lot", self.lot_of[name]), ("aside",))]
        else:
            moved = [(name, ("aside",), ("lot", self.lot_of[name]))]
        self.moved += moved
        return moved

    def told(self):
        where = {number: self.place(number) for number in sorted(self.rows)}
        return {"lots": self.bought, "strings": sorted(self.sizes), "moves": self.moved, "where": where,
                "of": {lot: [number for number in where if where[number] == ("lot", lot)] for lot in self.bought},
                "string": {name: self.string(name) for name in self.sizes},
                "aside": [number for number in where if where[number] == ("aside",)],
                "sold": [number for number in where if where[number][0] == "sold"],
                "beads": [self.rows[number] for number in where], "bead": self.rows}


def deed_by_chance(chance):
    word = chance.choice(["buy", "break", "sell", "aside", "back"] + ["string", "take", "fill"] * 4)
    name = chance.choice(["a", "b", "c"])
    number = chance.randrange(1, 16)
    if word == "buy":
        numbers = chance.sample(range(13, 25), chance.randrange(1, 4))
        return (word, name, tuple([row(told, chance.randrange(4, 7), chance.choice(["rose", "rose", "white"]))
                                   for told in numbers]))
    if word == "string":
        return (word, name, tuple(chance.sample(range(1, 15), chance.choice([1, 2, 3, 3]))))
    return {"break": (word, name), "sell": (word, name), "take": (word, name, chance.randrange(4)),
            "fill": (word, name, chance.randrange(3), number), "aside": (word, number), "back": (word, number)}[word]


class ByChance(unittest.TestCase):
    def test_held_against_a_plain_stock(self):
        seen = {}
        for turn in range(150):
            chance = random.Random(turn)
            rule = chance.choice([RULE, Rule(0, 2, 1, False), Rule(0, 9, 9, False)])
            stock, plain = Stock(rule), Plain(rule)
            first = ("buy", "e", tuple([row(number, chance.randrange(4, 7)) for number in range(1, 14)]))
            for deed in [first] + [deed_by_chance(chance) for step in range(60)]:
                reasons = plain.reasons(deed)
                if reasons:
                    told = stock_told(stock)
                    with self.assertRaises(reasons[0][0], msg=(turn, deed)) as caught:
                        stock.do(deed)
                    self.assertEqual(tuple(fields_in(caught.exception)), reasons[0][1:], (turn, deed))
                    self.assertEqual(stock_told(stock), told)
                else:
                    self.assertEqual(stock.do(deed), plain.do(deed), (turn, deed))
                    self.assertEqual(stock_told(stock), plain.told(), (turn, deed))
                key = (deed[0], reasons[0][0].__name__ if reasons else "done")
                seen[key] = seen.get(key, 0) + 1
        wanted = [("buy", "Known"), ("string", "NoSuch"), ("string", "Known"), ("string", "Elsewhere"),
                  ("string", "NotLet"), ("break", "NoSuch"), ("sell", "NoSuch"), ("sell", "NoPlace"),
                  ("take", "NoSuch"), ("take", "NoPlace"), ("fill", "NoSuch"), ("fill", "Elsewhere"),
                  ("fill", "NoPlace"), ("fill", "NotLet"), ("aside", "NoSuch"), ("aside", "Elsewhere"),
                  ("back", "NoSuch"), ("back", "Elsewhere")]
        words = ["buy", "string", "break", "sell", "take", "fill", "aside", "back"]
        for key in wanted + [(word, "done") for word in words]:
            self.assertGreater(seen.get(key, 0), 3, key)


if __name__ == "__main__":
    unittest.main()
