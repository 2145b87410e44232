"""[10.1], [10.2]: the book."""

import itertools
import random
import unittest

from pearlrise.book import Book
from pearlrise.errors import BadDeed, Elsewhere, Known, NoPlace, NoSuch, NotLet, PearlError, TooLate
from pearlrise.rules import Rule
from pearlrise.stock import Stock
from tests.stocks import row, stock_of
from tests.things import Alike, Keyless, fields_in, no_wholes, stock_told

RULE = Rule(least=1, most=3, match=1, shades=True)
AB = ("buy", "ab", (row(1, 5), row(2, 7), row(3, 5), row(4, 7), row(5, 9)))
CD = ("buy", "cd", (row(11, 5), row(12, 7), row(13, 6), row(14, 20, "white")))
REFUSALS = (NoSuch, Known, Elsewhere, NoPlace, NotLet)


def book_of(tellings, rule=RULE):
    """A book that was told some tellings, in their order."""
    book = Book(rule)
    for when, deed in tellings:
        book.tell(when, deed)
    return book


def book_told(book):
    """All that a book tells, in plain lists and dicts."""
    times = sorted({when for when, deed in book.tellings()})
    asked = [0] + [when + step for when in times for step in (-1, 0, 1)]
    return {"tellings": book.tellings(), "in_time": book.in_time(), "stock": stock_told(book.stock()),
            "at": {when: stock_told(book.stock_at(when)) for when in asked}}


def plain_order(tellings):
    """The numbers of tellings as they stand: each by its time, behind all of that time that were told ahead."""
    told = []
    for number, (when, deed) in enumerate(tellings):
        at = len([other for other in told if tellings[other][0] <= when])
        told.insert(at, number)
    return told


def plain_tell(rule, tellings, when, deed):
    """What a telling leads to, as [10.1] tells it: ("done", moves), or the class of the refusal and its fields."""
    stock = Stock(rule)
    moved = None
    for number in plain_order(tellings + [(when, deed)]):
        if number == len(tellings):
            try:
                moved = stock.do(deed)
            except REFUSALS as error:
                return (type(error), fields_in(error))
        else:
            try:
                stock.do(tellings[number][1])
            except REFUSALS:
                return (TooLate, [number])
    return ("done", moved)


# Told at these times they are all done; x is made, has a gap, is filled again and sold; y is made and broken.
TELLINGS = [(10, AB), (20, CD), (30, ("string", "x", (1, 2, 3))), (40, ("take", "x", 1)), (50, ("fill", "x", 1, 12)),
            (60, ("string", "y", (11, 2, 13))), (70, ("sell", "x")), (80, ("break", "y")), (90, ("back", 11)),
            (100, ("aside", 5))]


class Told(unittest.TestCase):
    def test_in_time(self):
        book, stock = Book(RULE), Stock(RULE)
        for when, deed in TELLINGS:
            moved = book.tell(when, deed)
            self.assertIs(type(moved), list)
            self.assertEqual(moved, stock.do(deed))
            self.assertEqual(stock_told(book.stock()), stock_told(stock))
        self.assertEqual(book.tellings(), TELLINGS)
        self.assertEqual(book.in_time(), TELLINGS)

    def test_nothing_told(self):
        book = Book(RULE)
        self.assertEqual(book.tellings(), [])
        self.assertEqual(book.in_time(), [])
        self.assertEqual(stock_told(book.stock()), stock_told(Stock(RULE)))
        self.assertEqual(stock_told(book.stock_at(0)), stock_told(Stock(RULE)))
        self.assertIs(type(book.stock()), Stock)
        self.assertIs(type(book.stock_at(5)), Stock)

    def test_late(self):
        book = book_of([(10, AB)])
        book.tell(30, ("string", "x", (1, 2, 3)))
        self.assertEqual(book.tell(20, CD), [(number, ("new",), ("lot", "cd")) for number in (11, 12, 13, 14)])
        self.assertEqual(book.tell(25, ("aside", 2)), [(2, ("lot", "ab"), ("aside",))])
        self.assertEqual(book.tellings(), [(10, AB), (30, ("string", "x", (1, 2, 3))), (20, CD), (25, ("aside", 2))])
        self.assertEqual(book.in_time(), [(10, AB), (20, CD), (25, ("aside", 2)), (30, ("string", "x", (1, 2, 3)))])
        # What the string moved is told from where the bead is now.
        self.assertEqual(book.stock().moves()[-3:], [(1, ("lot", "ab"), ("string", "x", 0)),
                                                     (2, ("aside",), ("string", "x", 1)),
                                                     (3, ("lot", "ab"), ("string", "x", 2))])

    def test_several_at_one_time_in_the_order_told(self):
        book = book_of([(10, AB), (10, ("aside", 1)), (10, ("back", 1)), (10, ("aside", 1))])
        self.assertEqual(book.in_time(), book.tellings())
        self.assertEqual(book.stock().aside(), [1])
        self.assertEqual(book.tell(10, ("back", 1)), [(1, ("aside",), ("lot", "ab"))])
        book.tell(20, ("aside", 1))
        book.tell(5, CD)
        self.assertEqual(book.tell(10, ("aside", 2)), [(2, ("lot", "ab"), ("aside",))])
        self.assertEqual([deed for when, deed in book.in_time()],
                         [CD, AB, ("aside", 1), ("back", 1), ("aside", 1), ("back", 1), ("aside", 2), ("aside", 1)])
        # Of one time the later told one stands behind, so the bead is not aside yet.
        with self.assertRaises(Elsewhere):
            book_of([(10, AB), (20, ("aside", 1))]).tell(20, ("aside", 1))
        with self.assertRaises(TooLate) as caught:
            book_of([(10, AB), (20, ("aside", 1))]).tell(19, ("aside", 1))
        self.assertEqual(caught.exception.at, 1)

    def test_a_deed_behind_that_moves_other_beads_is_no_fall(self):
        book = book_of([(10, AB), (30, ("string", "x", (1, 2, 3))), (50, ("break", "x"))])
        self.assertEqual(book.tell(40, ("take", "x", 1)), [(2, ("string", "x", 1), ("aside",))])
        self.assertEqual(book.stock().moves()[-2:], [(1, ("string", "x", 0), ("aside",)),
                                                     (3, ("string", "x", 2), ("aside",))])
        self.assertEqual(book.tell(41, ("fill", "x", 1, 4)), [(4, ("lot", "ab"), ("string", "x", 1))])
        self.assertEqual(book.stock().moves()[-3:], [(1, ("string", "x", 0), ("aside",)),
                                                     (4, ("string", "x", 1), ("aside",)),
                                                     (3, ("string", "x", 2), ("aside",))])
        self.assertEqual(book.stock().aside(), [1, 2, 3, 4])

    def test_what_tell_tells_is_of_its_time(self):
        book = book_of([(10, AB), (30, ("aside", 1))])
        self.assertEqual(book.tell(40, ("string", "x", (1,))), [(1, ("aside",), ("string", "x", 0))])
        book = book_of([(10, AB), (30, ("string", "x", (1,))), (40, ("break", "x"))])
        self.assertEqual(book.tell(50, ("back", 1)), [(1, ("aside",), ("lot", "ab"))])
        self.assertEqual(book.tell(20, ("aside", 1)), [(1, ("lot", "ab"), ("aside",))])

    def test_times_at_their_bounds(self):
        book = book_of([(10 ** 40, AB)])
        book.tell(0, CD)
        book.tell(10 ** 40 - 1, ("aside", 11))
        book.tell(10 ** 40 + 1, ("aside", 1))
        self.assertEqual([when for when, deed in book.in_time()], [0, 10 ** 40 - 1, 10 ** 40, 10 ** 40 + 1])
        self.assertEqual(book.stock_at(10 ** 40).aside(), [11])

    def test_arguments_by_name(self):
        book = Book(rule=RULE)
        self.assertEqual(len(book.tell(deed=AB, time=10)), 5)
        self.assertEqual(book.stock_at(time=9).lots(), [])
        self.assertEqual(book.stock_at(time=10).lots(), ["ab"])

    def test_the_rule_is_the_books(self):
        with self.assertRaises(NotLet):
            book_of([(10, AB)]).tell(20, ("string", "x", (1, 5, 3)))
        self.assertEqual(len(book_of([(10, AB)], Rule()).tell(20, ("string", "x", (1, 5, 3)))), 3)
        self.assertEqual(len(book_of([(10, AB)], Rule()).stock().do(("string", "x", (1, 5, 3)))), 3)


class Refused(unittest.TestCase):
    def refused(self, book, when, deed, kind, *fields):
        """A telling is refused, twice alike, and nothing is changed."""
        told = book_told(book)
        for turn in range(2):
            with self.assertRaises(kind, msg=(when, deed)) as caught:
                book.tell(when, deed)
            self.assertIs(type(caught.exception), kind, (when, deed))
            self.assertEqual(fields_in(caught.exception), list(fields), (when, deed))
            self.assertEqual(book_told(book), told)

    def test_no_time(self):
        book = book_of(TELLINGS)
        for when in no_wholes() + [-1, -10 ** 30, [5], {5: 5}, Keyless(), Alike(), "5", (5,)]:
            self.refused(book, when, ("aside", 4), BadDeed)
            # Ahead of all else, too.
            self.refused(book, when, ("aside", 99), BadDeed)
            self.refused(book, when, None, BadDeed)
            self.refused(book, when, AB, BadDeed)

    def test_no_deed(self):
        book = book_of(TELLINGS)
        for thing in no_wholes() + [5, ("aside",), ("aside", 0), ("aside", True), ["aside", 4], ("string", "x", (4, 4)),
                                    ("string", "v", [4]), ("buy", "ab", ()), ("take", "nosuch", -1), Keyless(), Alike(),
                                    ("aside", Keyless()), (Keyless(), 4), ("aside", []), ("break", {})]:
            for when in (0, 35, 200, -1, None):
                self.refused(book, when, thing, BadDeed)
        self.assertTrue(issubclass(BadDeed, PearlError))

    def test_each_refusal_at_its_time(self):
        book = book_of(TELLINGS)
        self.refused(book, 9, ("aside", 1), NoSuch, "bead", 1)
        self.refused(book, 19, ("aside", 11), NoSuch, "bead", 11)
        self.refused(book, 29, ("break", "x"), NoSuch, "string", "x")
        self.refused(book, 70, ("break", "x"), NoSuch, "string", "x")
        self.refused(book, 10, ("buy", "ab", (row(50, 5),)), Known, "lot", "ab")
        self.refused(book, 10, ("buy", "ef", (row(50, 5), row(2, 5))), Known, "bead", 2)
        self.refused(book, 30, ("string", "x", (4,)), Known, "string", "x")
        self.refused(book, 30, ("aside", 1), Elsewhere, 1, ("string", "x", 0))
        self.refused(book, 70, ("aside", 1), Elsewhere, 1, ("sold", "x"))
        self.refused(book, 100, ("aside", 5), Elsewhere, 5, ("aside",))
        self.refused(book, 99, ("back", 5), Elsewhere, 5, ("lot", "ab"))
        self.refused(book, 40, ("take", "x", 1), NoPlace, 1)
        self.refused(book, 39, ("fill", "x", 1, 4), NoPlace, 1)
        self.refused(book, 45, ("sell", "x"), NoPlace, 1)
        self.refused(book, 55, ("string", "v", (4, 5)), NotLet, 1, "match")
        self.refused(book, 45, ("fill", "x", 1, 14), NotLet, 1, "step")

    def test_too_late(self):
        book = book_of(TELLINGS)
        # Each of them leaves one behind it undone, whose number is told.
        self.refused(book, 5, ("buy", "ab", (row(50, 5),)), TooLate, 0)
        self.refused(book, 5, ("buy", "ef", (row(12, 5),)), TooLate, 1)
        self.refused(book, 25, ("string", "x", (4,)), TooLate, 2)
        self.refused(book, 29, ("string", "v", (3,)), TooLate, 2)
        self.refused(book, 35, ("take", "x", 1), TooLate, 3)
        self.refused(book, 35, ("break", "x"), TooLate, 3)
        self.refused(book, 35, ("string", "v", (12,)), TooLate, 4)
        self.refused(book, 45, ("string", "v", (2,)), TooLate, 5)
        self.refused(book, 55, ("take", "x", 0), TooLate, 6)
        self.refused(book, 65, ("sell", "x"), TooLate, 6)
        self.refused(book, 75, ("sell", "y"), TooLate, 7)
        self.refused(book, 85, ("back", 11), TooLate, 8)
        self.refused(book, 95, ("aside", 5), TooLate, 9)

    def test_too_late_counts_as_they_were_told(self):
        book = book_of([TELLINGS[0], TELLINGS[9], TELLINGS[1], TELLINGS[2], (110, ("sell", "x"))])
        self.refused(book, 25, ("string", "x", (4,)), TooLate, 3)
        self.refused(book, 105, ("take", "x", 0), TooLate, 4)
        self.refused(book, 50, ("string", "v", (5,)), TooLate, 1)
        # Of several that would be refused it is the first one as they stand, not as they were told.
        book = book_of([(10, AB), (40, ("aside", 1)), (30, ("aside", 2)), (20, ("aside", 3))])
        self.refused(book, 15, ("string", "v", (1,)), TooLate, 1)
        self.refused(book, 15, ("string", "v", (1, 3)), TooLate, 3)
        book.tell(50, ("back", 3))
        self.refused(book, 25, ("back", 3), TooLate, 4)
        self.refused(book, 15, ("string", "x", (1, 2, 3)), TooLate, 3)
        self.refused(book, 25, ("string", "x", (1, 2)), NotLet, 1, "match")

    def test_too_late_of_several_at_one_time(self):
        book = book_of([(10, AB), (20, ("aside", 1)), (20, ("aside", 2)), (20, ("aside", 3))])
        self.refused(book, 19, ("string", "v", (3,)), TooLate, 3)
        self.refused(book, 19, ("string", "v", (2,)), TooLate, 2)
        self.refused(book, 19, ("string", "v", (1, 3)), TooLate, 1)

    def test_too_late_with_the_place_of_the_rule(self):
        # The string behind is not let by any more, as the bead that fills it is another.
        book = book_of([(10, AB), (30, ("string", "x", (1, 2, 3))), (32, ("take", "x", 1)), (34, ("take", "x", 0)),
                        (50, ("fill", "x", 0, 1))])
        self.refused(book, 40, ("fill", "x", 1, 5), NotLet, 2, "step")
        book.tell(40, ("fill", "x", 1, 4))
        self.refused(book, 60, ("fill", "x", 1, 2), NoPlace, 1)
        self.refused(book, 35, ("fill", "x", 1, 2), TooLate, 5)

    def test_too_late_for_each_reason(self):
        self.refused(book_of([(10, AB), (20, ("string", "x", (1,))), (30, ("break", "x"))]), 25, ("sell", "x"),
                     TooLate, 2)
        self.refused(book_of([(10, AB)]), 5, ("buy", "ef", (row(5, 1),)), TooLate, 0)
        self.refused(book_of([(10, AB), (20, ("aside", 1))]), 15, ("aside", 1), TooLate, 1)
        self.refused(book_of([(10, AB), (20, ("string", "x", (1,))), (30, ("take", "x", 0))]), 25, ("take", "x", 0),
                     TooLate, 2)
        wide = book_of([(10, AB), (20, ("string", "x", (1, 3))), (30, ("take", "x", 1)), (31, ("take", "x", 0)),
                        (50, ("fill", "x", 1, 2))])
        self.refused(wide, 40, ("fill", "x", 0, 1), TooLate, 4)

    def test_its_own_refusal_ahead_of_too_late(self):
        book = book_of(TELLINGS)
        self.refused(book, 35, ("string", "x", (12,)), Known, "string", "x")
        self.refused(book, 35, ("string", "v", (12, 99)), NoSuch, "bead", 99)
        self.refused(book, 35, ("string", "v", (12, 2)), Elsewhere, 2, ("string", "x", 1))


class Late(unittest.TestCase):
    def test_the_same_tellings_in_several_orders(self):
        tellings = [(10, AB), (20, CD), (30, ("string", "x", (1, 2, 3))), (40, ("take", "x", 1)),
                    (50, ("fill", "x", 1, 12)), (60, ("aside", 5)), (70, ("sell", "x"))]
        wanted = book_of(tellings)
        led = 0
        for order in itertools.permutations(tellings):
            try:
                book = book_of(order)
            except (TooLate,) + REFUSALS:
                continue
            led += 1
            self.assertEqual(book.in_time(), tellings)
            self.assertEqual(book.tellings(), list(order))
            self.assertEqual(stock_told(book.stock()), stock_told(wanted.stock()))
            for when in (0, 10, 35, 40, 50, 65, 70, 99):
                self.assertEqual(stock_told(book.stock_at(when)), stock_told(wanted.stock_at(when)))
        self.assertGreater(led, 20)

    def test_stock_at_each_time(self):
        book = book_of(TELLINGS[:1] + TELLINGS[1:3] + TELLINGS[9:] + TELLINGS[3:9])
        self.assertEqual(book.in_time(), TELLINGS)
        for when in range(0, 130):
            stock = stock_of([deed for told, deed in TELLINGS if told <= when], RULE)
            self.assertEqual(stock_told(book.stock_at(when)), stock_told(stock))
        self.assertEqual(stock_told(book.stock_at(10 ** 30)), stock_told(book.stock()))
        self.assertEqual(book.stock_at(-1).beads(), [])

    def test_what_is_told_is_the_askers_own(self):
        book = book_of(TELLINGS)
        told = book_told(book)
        for stock in (book.stock(), book.stock_at(100), book.stock_at(35), book.stock_at(500)):
            stock.do(("buy", "ef", (row(50, 5),)))
            stock.do(("aside", 4))
            stock.do(("string", "v", (4,)))
        for some in (book.tellings(), book.in_time(), book.stock().moves(), book.stock_at(35).string("x")):
            some.append("more")
            some[0] = None
        moved = book.tell(200, ("aside", 4))
        moved.append("more")
        self.assertEqual(book.stock().moves()[-1], (4, ("lot", "ab"), ("aside",)))
        self.assertEqual(book.tellings(), told["tellings"] + [(200, ("aside", 4))])
        self.assertEqual(stock_told(book.stock_at(100)), told["stock"])

    def test_two_books_side_by_side(self):
        one, other = Book(RULE), Book(RULE)
        one.tell(10, AB)
        self.assertEqual(other.tellings(), [])
        other.tell(10, CD)
        self.assertEqual(one.stock().lots(), ["ab"])
        self.assertEqual(other.stock().lots(), ["cd"])

    def deed_by_chance(self, chance):
        word = chance.choice(["string", "string", "take", "fill", "fill", "break", "sell", "aside", "back", "buy"])
        name, number = chance.choice(["x", "y"]), chance.choice([1, 2, 3, 4, 5, 11, 12, 13])
        if word == "buy":
            return (word, chance.choice(["ab", "cd", "ef"]), (row(chance.randrange(1, 30), 5),))
        if word == "string":
            return (word, name, tuple(chance.sample([1, 2, 3, 4, 5, 11, 12, 13], chance.choice([1, 2, 3]))))
        return {"break": (word, name), "sell": (word, name), "take": (word, name, chance.randrange(3)),
                "fill": (word, name, chance.randrange(3), number), "aside": (word, number),
                "back": (word, number)}[word]

    def test_held_against_the_words(self):
        seen = {}
        for turn in range(70):
            chance = random.Random(turn)
            rule = chance.choice([RULE, Rule(0, 9, 9, False)])
            book = book_of([(5, AB), (chance.choice([5, 8]), CD)], rule)
            for step in range(45):
                tellings = book.tellings()
                when, deed = chance.randrange(0, 30), self.deed_by_chance(chance)
                wanted = plain_tell(rule, tellings, when, deed)
                key = wanted[0] if wanted[0] == "done" else wanted[0].__name__
                if wanted[0] == "done":
                    self.assertEqual(book.tell(when, deed), wanted[1])
                    tellings.append((when, deed))
                    late = max([told for told, other in tellings]) > when
                    key = "late" if late else "done"
                else:
                    with self.assertRaises(wanted[0]) as caught:
                        book.tell(when, deed)
                    self.assertEqual(fields_in(caught.exception), wanted[1])
                seen[key] = seen.get(key, 0) + 1
                self.assertEqual(book.tellings(), tellings)
                self.assertEqual(book.in_time(), [tellings[at] for at in plain_order(tellings)])
            in_time = book.in_time()
            self.assertEqual(stock_told(book.stock()), stock_told(stock_of([deed for told, deed in in_time], rule)))
            self.assertEqual(book_told(book_of(in_time, rule))["stock"], book_told(book)["stock"])
        for key in ("done", "late", "TooLate", "NoSuch", "Known", "Elsewhere", "NoPlace", "NotLet"):
            self.assertGreater(seen.get(key, 0), 10, seen)


if __name__ == "__main__":
    unittest.main()
