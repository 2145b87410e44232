"""The desk: it is told rows, texts, and answers each by a text."""

from pearlrise.beadtext import number_in, read_lot, read_rule, show_rule, things_in
from pearlrise.best import best
from pearlrise.book import Book
from pearlrise.deedtext import read_tellings, show_tellings
from pearlrise.errors import BadText, NoRow
from pearlrise.exchange import fewest
from pearlrise.giving import could_be
from pearlrise.pairs import most_pairs
from pearlrise.words import is_number, is_whole
from pearlrise.worths import worth_of

NOTHING = "-"
DONE = "ok"
LONGEST_BEST = 9
MOST_FOR_BEST = 12
MOST_FOR_COULD = 40
MOST_NUMBERS = 60
MOST_LOTS = 8
# What stands behind the first word of each row that is asked of a stock.
ASKED = {
    "where": ("number",),
    "bead": ("number",),
    "lots": (),
    "strings": (),
    "aside": (),
    "sold": (),
    "lot": ("name",),
    "string": ("name",),
    "moves": (),
    "fewest": ("name", "at"),
}


def joined(things):
    """Things with blanks between, a gap as nothing."""
    if len(things) == 0:
        return NOTHING
    return " ".join([NOTHING if thing is None else str(thing) for thing in things])


def lined(lines):
    """Lines, one behind another."""
    return NOTHING if len(lines) == 0 else "\n".join(lines)


def shown_moves(moves):
    """A line for each move."""
    return lined([f"{number} {joined(start)} > {joined(end)}" for number, start, end in moves])


def shown_tellings(tellings):
    """Tellings as they are written."""
    return NOTHING if len(tellings) == 0 else show_tellings(tellings)


def things_told(words, kinds):
    """The names and numbers that words write, one for each kind told."""
    things = things_in(words, kinds)
    if things is None:
        raise NoRow("these are not the words of this row")
    return things


def numbers_told(words, most):
    """The unlike numbers of beads that words write, at most so many."""
    numbers = [number_in(word) for word in words]
    if not 1 <= len(numbers) <= most or not all([is_number(number) for number in numbers]):
        raise NoRow("these are not the numbers of this row")
    if len(set(numbers)) < len(numbers):
        raise NoRow("a number is told twice")
    return numbers


def lots_told(lines):
    """The Lots of unlike names that lines write."""
    try:
        lots = [read_lot(line) for line in lines]
    except BadText:
        raise NoRow("a Lot can't be read") from None
    if len(lots) > MOST_LOTS or len(set([lot.name for lot in lots])) < len(lots):
        raise NoRow("these Lots are too many, or of one name")
    return lots


def telling_told(row):
    """The one telling that a row writes."""
    try:
        tellings = read_tellings(row)
    except BadText:
        raise NoRow("a deed can't be read") from None
    if len(tellings) != 1:
        raise NoRow("a row tells one deed")
    return tellings[0]


def asked_of_stock(words):
    """What words ask of a stock: the first one, and the things that are told behind it."""
    if len(words) == 0 or words[0] not in ASKED:
        raise NoRow("this is no row")
    return (words[0], things_told(words[1:], ASKED[words[0]]))


def answer_of(stock, word, things):
    """What a stock tells of what is asked."""
    if word == "where":
        return joined(stock.where(things[0]))
    if word == "bead":
        return str(stock.bead(things[0]))
    if word == "lots":
        return joined(stock.lots())
    if word == "strings":
        return joined(stock.strings())
    if word == "aside":
        return joined(stock.aside())
    if word == "sold":
        return joined(stock.sold())
    if word == "lot":
        return joined(stock.of(things[0]))
    if word == "string":
        return joined(stock.string(things[0]))
    if word == "moves":
        return shown_moves(stock.moves())
    found = fewest(stock, things[0], things[1])
    return NOTHING if found is None else joined(found)


class Desk:
    """A book, none at first, and rates."""

    def __init__(self):
        self.book = None
        self.rates = {}

    def say(self, row):
        """The answer to a row; where it is refused nothing is changed."""
        if not isinstance(row, str):
            raise NoRow("a row is a text")
        words = row.split(" ")
        if words[0] == "rule":
            return self.new_book(row)
        if self.book is None:
            raise NoRow("a rule stands ahead of all else")
        if words[0] == "at":
            return self.new_telling(row)
        if words[0] == "rate":
            return self.new_rate(words[1:])
        if words[0] == "could":
            return self.could(row)
        return self.answer(row, words)

    def answer(self, row, words):
        """The answer to a row that only asks, all words of which stand on one line."""
        if row == "by":
            return show_rule(self.book.rule)
        if row == "tellings":
            return shown_tellings(self.book.tellings())
        if row == "in time":
            return shown_tellings(self.book.in_time())
        if words[0] == "then":
            return self.then(words[1:])
        if words[0] == "worth":
            return self.worth_together(words[1:])
        if words[0] == "best":
            return self.best_string(words[1:])
        if words[0] == "pairs":
            return self.pairs(words[1:])
        word, things = asked_of_stock(words)
        return answer_of(self.book.stock(), word, things)

    def new_book(self, row):
        """Begin a new book by a rule."""
        try:
            rule = read_rule(row)
        except BadText:
            raise NoRow("this is no rule") from None
        self.book = Book(rule)
        return DONE

    def new_telling(self, row):
        """Tell a deed to the book."""
        time, deed = telling_told(row)
        return shown_moves(self.book.tell(time, deed))

    def new_rate(self, words):
        """Keep a rate."""
        shade, form, rate = things_told(words, ("name", "name", "number"))
        self.rates[(shade, form)] = rate
        return DONE

    def then(self, words):
        """What the stock at a time tells of what is asked."""
        time = things_told(words[:1], ("number",))[0]
        word, things = asked_of_stock(words[1:])
        return answer_of(self.book.stock_at(time), word, things)

    def beads_of(self, numbers):
        """The beads of some numbers."""
        stock = self.book.stock()
        return [stock.bead(number) for number in numbers]

    def worth_together(self, words):
        """What beads are worth together."""
        return str(worth_of(self.beads_of(numbers_told(words, MOST_NUMBERS)), self.rates))

    def best_string(self, words):
        """The worth and the numbers of a best string."""
        long = things_told(words[:1], ("number",))[0]
        numbers = numbers_told(words[1:], MOST_FOR_BEST)
        if not is_whole(long, 1, LONGEST_BEST):
            raise NoRow("no string is so long")
        found = best(self.beads_of(numbers), self.book.rule, long, self.rates)
        if found is None:
            return NOTHING
        return f"{found[0]}: {joined([bead.number for bead in found[1]])}"

    def pairs(self, words):
        """The most pairs."""
        match = things_told(words[:1], ("number",))[0]
        numbers = numbers_told(words[1:], MOST_NUMBERS)
        return lined([joined(pair) for pair in most_pairs(self.beads_of(numbers), match)])

    def could(self, row):
        """The names of the Lots that beads can be of."""
        lines = row.split("\n")
        numbers = numbers_told(lines[0].split(" ")[1:], MOST_FOR_COULD)
        lots = lots_told(lines[1:])
        found = could_be(self.beads_of(numbers), lots)
        return lined([f"{number} {joined(found[number])}" for number in numbers])
