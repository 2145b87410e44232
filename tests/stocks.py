"""Stocks with gaps, and exchanges for them as the document's words tell them, for what is asked of stage 9."""

from pearlrise.errors import NotLet
from pearlrise.rules import Rule, barred
from pearlrise.stock import Stock

LOOSE = Rule(0, 10, 1, True)


def row(number, across, shade="rose"):
    return (number, across, 10, shade, "round", False)


def stock_of(deeds, rule=LOOSE):
    """A stock that has done deeds."""
    stock = Stock(rule)
    for deed in deeds:
        stock.do(deed)
    return stock


def chain_deeds_of(strings, free=True):
    """Deeds that lead to a stock with a gap, g 0, that can be filled through so many other strings, one by one.

    Each string is of two places, and its left bead fits the place left of the string ahead alone: g has - 10, a has
    11 12, b has 13 14, and so on, each bead as far across as its number; the one that fits the last place is free.
    """
    names = "abcd"[:strings]
    last = 11 + 2 * strings
    rows = [row(number, number) for number in range(9, last + 1)]
    deeds = [("buy", "lot", tuple(rows)), ("string", "g", (9, 10)), ("take", "g", 0)]
    deeds += [("string", name, (11 + 2 * at, 12 + 2 * at)) for at, name in enumerate(names)]
    # Nine fits the gap itself, so it is to be gone.
    deeds += [("string", "z", (9,)), ("sell", "z")]
    if not free:
        deeds += [("string", "z", (last,)), ("sell", "z")]
    return deeds


def chain_stock(strings, free=True):
    return stock_of(chain_deeds_of(strings, free))


def stock_by_chance(chance, most_strings=5):
    """A stock by chance of one to five strings, some with gaps, and few free beads."""
    rule = chance.choice([Rule(0, 4, 1, True), Rule(0, 6, 2, False), Rule(1, 3, 1, False), Rule(0, 9, 0, False)])
    across = [chance.randrange(1, 9) for at in range(22)]
    rows = [row(number, across[at], chance.choice(["rose", "rose", "rose", "grey"]))
            for at, number in enumerate(chance.sample(range(1, 60), 22))]
    stock = stock_of([("buy", "ab", tuple(rows[:11])), ("buy", "cd", tuple(rows[11:]))], rule)
    numbers = [told[0] for told in rows]
    many = chance.randrange(1, most_strings + 1)
    names = chance.sample(["a", "b", "c", "d", "e", "g"], many)
    for name in names:
        for turn in range(300):
            free = [number for number in numbers if stock.where(number)[0] in ("lot", "aside")]
            try:
                stock.do(("string", name, tuple(chance.sample(free, chance.choice([2, 3, 3, 4])))))
                break
            except NotLet:
                pass
    for name in stock.strings():
        for at in range(len(stock.string(name))):
            if chance.random() < 0.25:
                stock.do(("take", name, at))
    free = [number for number in numbers if stock.where(number)[0] in ("lot", "aside")]
    for number in free:
        # One place alone is always let by, so any bead can be sold.
        if chance.random() < 0.85:
            stock.do(("string", "zz", (number,)))
            stock.do(("sell", "zz"))
        elif chance.random() < 0.5 and stock.where(number)[0] == "lot":
            stock.do(("aside", number))
    return stock


def rising_by_chance(chance):
    """A stock by chance of strings that lie further and further across, and free beads beyond: for long exchanges."""
    rule = Rule(0, 10, chance.choice([1, 1, 2]), chance.choice([True, False]))
    many = chance.randrange(2, 6)
    names = chance.sample(["a", "b", "c", "d", "e", "g"], many)
    numbers = chance.sample(range(1, 60), 3 * many + 3)
    rows, strings = [], []
    for at, name in enumerate(names):
        low = 10 + 2 * at + chance.randrange(2)
        across = [low, low + chance.randrange(2)]
        if chance.random() < 0.4:
            across.insert(1, low + 1 + chance.randrange(4))
        held = [numbers.pop() for part in across]
        rows += [row(number, part) for number, part in zip(held, across)]
        strings.append(("string", name, tuple(held)))
    rows += [row(number, 9 + 2 * many + chance.randrange(4)) for number in numbers[:chance.randrange(1, 4)]]
    taken = [("take", names[0], chance.randrange(2)), ("take", names[-1], 0)][:chance.randrange(1, 3)]
    stock = stock_of([("buy", "ab", tuple(rows))] + strings + taken, rule)
    for number in stock.aside():
        stock.do(("string", "zz", (number,)))
        stock.do(("sell", "zz"))
    return stock


def gaps_of(stock):
    """All gaps of a stock."""
    return [(name, at) for name in stock.strings() for at, number in enumerate(stock.string(name)) if number is None]


def fits(stock, name, at, number):
    """Whether a bead fits a place, its string as it stands else."""
    beads = [None if held is None else stock.bead(held) for held in stock.string(name)]
    beads[at] = stock.bead(number)
    return barred(beads, stock.rule) is None


def is_free(stock, number):
    return stock.where(number)[0] in ("lot", "aside")


def all_exchanges(stock, name, at):
    """All exchanges for a gap, tried one by one."""
    told = []

    def go_on(ahead, used, empty):
        for bead in stock.beads():
            place = stock.where(bead.number)
            if not fits(stock, empty[0], empty[1], bead.number):
                continue
            if is_free(stock, bead.number):
                told.append(ahead + [bead.number])
            elif place[0] == "string" and place[1] not in used:
                go_on(ahead + [bead.number], used + [place[1]], place[1:])

    go_on([], [name], (name, at))
    return told


def shortest(exchanges):
    """Of exchanges the shortest one, of several as short the first one; None of none."""
    return min(exchanges, key=lambda numbers: (len(numbers), numbers), default=None)
