"""[2] and [4]: what the document promises over the whole program, through several modules."""

import itertools
import random
import unittest

from pearlrise.beads import Bead, bead_of
from pearlrise.beadtext import (read_bead, read_beads, read_lot, read_rule, read_share, read_string, read_tag,
                                show_beads, show_rule, tag)
from pearlrise.best import best
from pearlrise.bestpaper import bars_better, best_paper
from pearlrise.book import Book
from pearlrise.deedtext import read_deed, read_tellings, show_deed, show_tellings
from pearlrise.desk import Desk
from pearlrise.errors import Elsewhere, Known, NoPlace, NoSuch, NotLet, PearlError, TooLate
from pearlrise.exchange import chain_deeds, fewest
from pearlrise.exchangepaper import bars_fewer, layers
from pearlrise.giving import bars_giving, could_be, giving, too_many
from pearlrise.lots import Lot
from pearlrise.pairs import clusters, most_pairs, shows
from pearlrise.rules import Rule, barred
from pearlrise.shares import Share
from pearlrise.stock import Stock
from pearlrise.strings import String
from pearlrise.worths import worth_of
from tests.stocks import all_exchanges, chain_deeds_of, gaps_of, row, shortest, stock_by_chance, stock_of
from tests.things import fields_in, stock_told

RULE = Rule(least=1, most=4, match=0, shades=True)
RATES = {("rose", "round"): 3, ("grey", "round"): 2}
REFUSALS = (PearlError, NoSuch, Known, Elsewhere, NoPlace)


def rows_by_chance(chance, many):
    """Rows of so many beads, of which some are alike across."""
    return tuple([(number, chance.randrange(5, 11), chance.randrange(1, 9), chance.choice(["rose", "rose", "grey"]),
                   "round", chance.random() < 0.1) for number in chance.sample(range(1, 60), many)])


def desk_by(rule, tellings):
    """A desk of a rule that was told tellings, with the rates of this file."""
    desk = Desk()
    desk.say(show_rule(rule))
    for (shade, form), rate in RATES.items():
        desk.say(f"rate {shade} {form} {rate}")
    for when, deed in tellings:
        desk.say(f"at {when} {show_deed(deed)}")
    return desk


def words_of(numbers):
    return " ".join([str(number) for number in numbers])


def asked_of(desk, numbers):
    """What a desk tells of its stock and of beads."""
    rows = ["lots", "strings", "aside", "sold", "moves", "in time"] + [f"where {number}" for number in numbers]
    rows += [f"then {when} moves" for when in (0, 5, 15, 25, 99)]
    return [desk.say(asked) for asked in rows]


class Let(unittest.TestCase):
    def test_a_row_is_strung_just_where_it_is_let_by(self):
        seen = set()
        for turn in range(150):
            chance = random.Random(turn)
            rows = rows_by_chance(chance, 5)
            numbers = tuple(chance.sample([told[0] for told in rows], chance.choice([2, 3, 3, 4])))
            beads = [bead_of(dict([(told[0], told) for told in rows])[number]) for number in numbers]
            found = barred(beads, RULE)
            desk = desk_by(RULE, [(0, ("buy", "ab", rows))])
            makes = [lambda: String(beads, RULE), lambda: desk.say(f"at 1 string x {words_of(numbers)}"),
                     lambda: stock_of([("buy", "ab", rows)], RULE).do(("string", "x", numbers)),
                     lambda: read_string(" | ".join([str(bead) for bead in beads]), RULE)]
            for make in makes:
                if found is None:
                    make()
                else:
                    with self.assertRaises(NotLet) as caught:
                        make()
                    self.assertEqual((caught.exception.at, caught.exception.why), found)
            seen.add(None if found is None else found[1])
        self.assertEqual(seen, {None, "step", "match", "shade"})


class Best(unittest.TestCase):
    def test_a_best_string_strung_by_a_stock(self):
        strung = 0
        for turn in range(40):
            chance = random.Random(turn)
            rows = rows_by_chance(chance, 8)
            stock = stock_of([("buy", "ab", rows)], RULE)
            desk = desk_by(RULE, [(0, ("buy", "ab", rows))])
            beads = stock.beads()
            for long in (2, 3, 4):
                found = best(beads, RULE, long, RATES)
                paper = best_paper(beads, RULE, long, RATES)
                let = [told for told in itertools.permutations(beads, long) if barred(list(told), RULE) is None]
                answer = desk.say(f"best {long} {words_of([bead.number for bead in beads])}")
                if found is None:
                    self.assertEqual(let, [])
                    self.assertEqual(answer, "-")
                    self.assertIs(bars_better(beads, RULE, long, RATES, Share(0), paper), True)
                    continue
                strung += 1
                worths = [worth_of(list(told), RATES) for told in let]
                self.assertFalse([worth for worth in worths if found[0].is_below(worth)])
                self.assertIn(found[0], worths)
                self.assertIs(bars_better(beads, RULE, long, RATES, found[0], paper), True)
                self.assertIs(bars_better(beads, RULE, long, RATES, found[0].minus(Share(1, 7)), paper), False)
                numbers = [int(word) for word in answer.split(": ")[1].split(" ")]
                self.assertEqual(read_share(answer.split(": ")[0]), found[0])
                other = stock.copied()
                other.do(("string", "x", tuple(numbers)))
                self.assertEqual(other.string("x"), numbers)
                other.do(("sell", "x"))
                self.assertEqual(worth_of([other.bead(number) for number in other.sold()], RATES), found[0])
        self.assertGreater(strung, 30)


class Pairs(unittest.TestCase):
    def test_the_pairs_of_a_stock_are_strung(self):
        for turn in range(30):
            chance = random.Random(turn)
            match = chance.randrange(3)
            rule = Rule(0, 10, match, True)
            rows = rows_by_chance(chance, 12)
            stock = stock_of([("buy", "ab", rows)], rule)
            desk = desk_by(rule, [(0, ("buy", "ab", rows))])
            pairs, groups = most_pairs(stock.beads(), match), clusters(stock.beads(), match)
            self.assertIs(shows(stock.beads(), pairs, groups, match), True)
            answer = desk.say(f"pairs {match} {words_of([bead.number for bead in stock.beads()])}")
            self.assertEqual(answer, "\n".join([words_of(pair) for pair in pairs]) or "-")
            names = ["a", "b", "c", "d", "e", "f"]
            for name, pair in zip(names, pairs):
                desk.say(f"at 1 string {name} {words_of(pair)}")
                stock.do(("string", name, pair))
            # Of those that are left no two make a string of two.
            for one, other in itertools.permutations(stock.of("ab"), 2):
                if len([group for group in groups if one in group and other in group]) == 0:
                    with self.assertRaises(NotLet):
                        stock.do(("string", "z", (one, other)))


class CouldBe(unittest.TestCase):
    def test_lots_and_beads_of_a_stock(self):
        seen = {True: 0, False: 0}
        for turn in range(60):
            chance = random.Random(turn)
            rows = rows_by_chance(chance, 6)
            stock = stock_of([("buy", "ab", rows[:3]), ("buy", "cd", rows[3:])], RULE)
            desk = desk_by(RULE, [(0, ("buy", "ab", rows[:3])), (0, ("buy", "cd", rows[3:]))])
            lots = [Lot(name, chance.randrange(1, 5), chance.randrange(1, 7), chance.randrange(8, 12),
                        chance.choice([(), (), ("rose",), ("grey", "rose")])) for name in stock.lots() + ["ef"]]
            beads = stock.beads()
            told = {bead.number: set() for bead in beads}
            for names in itertools.product([lot.name for lot in lots], repeat=len(beads)):
                by_name = dict([(lot.name, lot) for lot in lots])
                fit = all([by_name[name].fits(bead) for name, bead in zip(names, beads)])
                if fit and all([names.count(lot.name) <= len(lot) for lot in lots]):
                    for name, bead in zip(names, beads):
                        told[bead.number].add(name)
            found = could_be(beads, lots)
            self.assertEqual(found, {number: [lot.name for lot in lots if lot.name in told[number]]
                                     for number in told})
            whole = giving(beads, lots) is not None
            self.assertEqual(whole, all([len(told[number]) > 0 for number in told]))
            self.assertEqual(too_many(beads, lots) is None, whole)
            if not whole:
                self.assertIs(bars_giving(beads, lots, too_many(beads, lots)), True)
            numbers = chance.sample(list(told), len(told))
            answer = desk.say("\n".join([f"could {words_of(numbers)}"] + [str(lot) for lot in lots]))
            self.assertEqual(answer, "\n".join([f"{number} {' '.join(found[number]) or '-'}" for number in numbers]))
            seen[whole] += 1
        self.assertGreater(min(seen.values()), 10, seen)


def deed_by_chance(chance, numbers):
    word = chance.choice(["string"] * 4 + ["take", "fill"] * 3 + ["break", "sell", "aside", "back"])
    name, number = chance.choice(["x", "y", "z"]), chance.choice(numbers)
    if word == "string":
        return (word, name, tuple(chance.sample(numbers, chance.choice([1, 2, 3]))))
    return {"break": (word, name), "sell": (word, name), "take": (word, name, chance.randrange(3)),
            "fill": (word, name, chance.randrange(3), number), "aside": (word, number), "back": (word, number)}[word]


class NothingLost(unittest.TestCase):
    def held(self, stock, numbers):
        """Each bead is at just one place, and what the stock tells of its places tells the same."""
        told = [(number, ("lot", lot)) for lot in stock.lots() for number in stock.of(lot)]
        told += [(number, ("aside",)) for number in stock.aside()]
        told += [(number, ("string", name, at)) for name in stock.strings()
                 for at, number in enumerate(stock.string(name)) if number is not None]
        told += [(number, stock.where(number)) for number in stock.sold()]
        self.assertEqual(sorted([number for number, place in told]), sorted(numbers))
        for number, place in told:
            self.assertEqual(stock.where(number), place)
        last = {}
        for number, start, end in stock.moves():
            self.assertEqual(start, last.get(number, ("new",)))
            last[number] = end
        self.assertEqual(last, dict(told))

    def test_whatever_is_done_and_told(self):
        done, refused = 0, 0
        for turn in range(40):
            chance = random.Random(turn)
            rows = rows_by_chance(chance, 10)
            numbers = [told[0] for told in rows]
            rule = Rule(0, 5, 2, False)
            buys = [(0, ("buy", "ab", rows[:6])), (0, ("buy", "cd", rows[6:]))]
            stock, book, desk = Stock(rule), Book(rule), desk_by(rule, buys)
            for when, deed in buys:
                stock.do(deed)
                book.tell(when, deed)
            for step in range(40):
                deed = deed_by_chance(chance, numbers)
                told = stock_told(stock)
                asked = asked_of(desk, numbers)
                try:
                    moved = stock.do(deed)
                except REFUSALS as error:
                    refused += 1
                    for tell in (lambda: book.tell(step, deed), lambda: desk.say(f"at {step} {show_deed(deed)}")):
                        with self.assertRaises(type(error)) as caught:
                            tell()
                        self.assertEqual(fields_in(caught.exception), fields_in(error))
                    self.assertEqual(stock_told(stock), told)
                    self.assertEqual(stock_told(book.stock()), told)
                    self.assertEqual(asked_of(desk, numbers), asked)
                else:
                    done += 1
                    self.assertEqual(book.tell(step, deed), moved)
                    self.assertEqual(desk.say(f"at {step} {show_deed(deed)}").count("\n") + 1, max(1, len(moved)))
                self.held(stock, numbers)
                self.held(book.stock(), numbers)
        self.assertGreater(min(done, refused), 200)


class Fewest(unittest.TestCase):
    def test_an_exchange_done_at_the_desk(self):
        for strings in range(5):
            rule = Rule(0, 10, 1, True)
            desk = desk_by(rule, [(at, deed) for at, deed in enumerate(chain_deeds_of(strings))])
            book = Book(rule)
            for when, deed in read_tellings(desk.say("in time")):
                book.tell(when, deed)
            stock = book.stock()
            numbers = [int(word) for word in desk.say("fewest g 0").split(" ")]
            self.assertEqual(numbers, fewest(stock, "g", 0))
            self.assertEqual(numbers, shortest(all_exchanges(stock, "g", 0)))
            self.assertIs(bars_fewer(stock, "g", 0, len(numbers), layers(stock, "g", 0)), True)
            for deed in chain_deeds(stock, "g", 0, numbers):
                desk.say(f"at 90 {show_deed(deed)}")
                stock.do(deed)
            self.assertNotIn("-", "".join([desk.say(f"string {name}") for name in desk.say("strings").split(" ")]))
            self.assertEqual(gaps_of(stock), [])
            self.assertEqual(desk.say("string g"), words_of(stock.string("g")))
            # Ahead of the exchange it is still asked for.
            self.assertEqual(desk.say("then 89 fewest g 0"), words_of(numbers))

    def test_a_string_sold_behind_an_exchange(self):
        sold = 0
        for turn in range(60):
            stock = stock_by_chance(random.Random(turn))
            for name, at in gaps_of(stock):
                numbers = fewest(stock, name, at)
                if numbers is None or stock.string(name).count(None) > 1:
                    continue
                other = stock.copied()
                for deed in chain_deeds(stock, name, at, numbers):
                    other.do(read_deed(show_deed(deed)))
                row_told = [other.bead(number) for number in other.string(name)]
                self.assertEqual(str(String(row_told, stock.rule)), " | ".join([str(bead) for bead in row_told]))
                other.do(("sell", name))
                sold += 1
        self.assertGreater(sold, 5)


class Late(unittest.TestCase):
    def test_told_late_at_the_desk(self):
        late = 0
        for turn in range(60):
            chance = random.Random(turn)
            rows = rows_by_chance(chance, 8)
            numbers = [told[0] for told in rows]
            rule = Rule(0, 5, 2, False)
            desk = desk_by(rule, [(3, ("buy", "ab", rows[:5])), (3, ("buy", "cd", rows[5:]))])
            for step in range(30):
                try:
                    desk.say(f"at {chance.randrange(30)} {show_deed(deed_by_chance(chance, numbers))}")
                except TooLate as error:
                    self.assertIn(error.at, range(len(read_tellings(desk.say("tellings")))))
                except REFUSALS:
                    pass
            in_time = read_tellings(desk.say("in time"))
            late += in_time != read_tellings(desk.say("tellings"))
            self.assertEqual([when for when, deed in in_time], sorted([when for when, deed in in_time]))
            other = desk_by(rule, in_time)
            self.assertEqual(asked_of(other, numbers), asked_of(desk, numbers))
            stock = stock_of([deed for when, deed in in_time], rule)
            self.assertEqual(desk.say("aside"), words_of(stock.aside()) or "-")
        self.assertGreater(late, 20)


class Shown(unittest.TestCase):
    def test_what_is_written_is_read_as_what_it_was(self):
        for turn in range(60):
            chance = random.Random(turn)
            stock = stock_by_chance(chance)
            beads = stock.beads()
            self.assertEqual([bead.row() for bead in read_beads(show_beads(beads))], [bead.row() for bead in beads])
            rule = read_rule(show_rule(stock.rule))
            self.assertEqual(rule, stock.rule)
            for name in stock.strings():
                told = [None if number is None else stock.bead(number) for number in stock.string(name)]
                string = String(told, rule)
                found = read_string(str(string), rule)
                self.assertEqual(found, string)
                self.assertEqual(found, string.turned())
                self.assertEqual(len(found), len(stock.string(name)))
                self.assertEqual(repr(found), repr(string))
                self.assertEqual(eval(repr(string)), string)
            for bead in beads:
                self.assertEqual(read_bead(str(bead)).row(), bead.row())
                self.assertEqual(read_tag(tag(bead.number)), bead.number)
                self.assertEqual(eval(repr(bead)).row(), bead.row())
            share = worth_of(beads, {("rose", "round"): 3, ("grey", "round"): 2}, base=chance.randrange(1, 50))
            self.assertEqual(read_share(str(share)), share)
            self.assertEqual(eval(repr(share)), share)
            lot = Lot("ab", chance.randrange(21), chance.randrange(1, 9), 9, chance.choice([(), ("b",), ("c", "b")]))
            self.assertEqual(read_lot(str(lot)), lot)
            self.assertEqual(eval(repr(lot)), lot)

    def test_tellings_written_lead_to_the_same_stock(self):
        rule = Rule(0, 10, 1, True)
        book = Book(rule)
        for at, deed in enumerate(chain_deeds_of(4)):
            book.tell(2 * at, deed)
        text = show_tellings(book.tellings())
        other = Book(read_rule(show_rule(rule)))
        for when, deed in read_tellings(text):
            other.tell(when, deed)
        self.assertEqual(show_tellings(other.tellings()), text)
        self.assertEqual(stock_told(other.stock()), stock_told(book.stock()))

    def test_beads_are_told_apart_by_their_numbers_alone(self):
        # Equal beads are other ones in a stock, a pair and a best string.
        rows = (row(1, 5), row(2, 5), row(3, 7))
        stock = stock_of([("buy", "ab", rows)], RULE)
        self.assertEqual(stock.bead(1), stock.bead(2))
        self.assertEqual(most_pairs(stock.beads()), [(1, 2)])
        share, beads = best(stock.beads(), RULE, 3, RATES)
        self.assertEqual(sorted([bead.number for bead in beads]), [1, 2, 3])
        self.assertEqual(share, Share(900))
        stock.do(("string", "x", tuple([bead.number for bead in beads])))
        with self.assertRaises(NotLet) as caught:
            String([Bead(*rows[0]), Bead(*rows[2]), Bead(*rows[0])], RULE)
        self.assertEqual((caught.exception.at, caught.exception.why), (2, "twice"))


if __name__ == "__main__":
    unittest.main()
