"""Things of many kinds, for what is refused or told False whatever it is, and beads by chance."""

from pearlrise.beads import Bead


class Keyless:
    """An object that cannot be a key of a dict."""

    __hash__ = None


class Alike:
    """An object that equals whatever it is held against."""

    def __eq__(self, other):
        return True


def others():
    """Things that are no whole number, no text and no truth."""
    return [None, 2.0, 2.5, float("nan"), 2j, b"", b"ab", (), (1,), ("ab",), [], [1], ["ab"], {}, {"ab": 1},
            {1, 2}, object(), Keyless(), len, int, Keyless]


def no_wholes():
    """Things that are no whole number."""
    return [True, False, "", "1", "12", "ab"] + others()


def no_names():
    """Things that are no name."""
    texts = ["", " ", "\n", "abcdefghi", "a" * 40, "Ab", "aB", "a1", "1", "a b", " ab", "ab ", "ab\n", "\nab",
             "a-b", "a_b", "a.b", "\u00e4b", "a\u00df", "\uff41b", "\u0430b", "a`", "{a"]
    return [True, False, 0, 1, 12] + texts + others()


def no_truths():
    """Things that are no truth."""
    return [0, 1, 2, -1, "", "True", "False", "ab"] + others()


def fields_of(bead):
    """What a bead is made of, None of a gap."""
    return None if bead is None else bead.row()


def beads_rising(chance, many, apart=2, jitter=1, looks=2):
    """So many beads of numbers from 1 on, whose across stand in steps, so that some of them are partners."""
    told = []
    for number in chance.sample(range(1, many + 6), many):
        across = 1 + apart * chance.randrange(1, 5) + chance.randrange(jitter + 1)
        look = chance.randrange(looks)
        told.append(Bead(number, across, chance.randrange(1, 6), ["rose", "grey"][look],
                         chance.choice(["round"] * 6 + ["oval"]), chance.random() < 0.15))
    return told


def stock_told(stock):
    """All that a stock tells, in plain tuples, lists and dicts."""
    numbers = [bead.number for bead in stock.beads()]
    return {"lots": stock.lots(), "of": {lot: stock.of(lot) for lot in stock.lots()}, "strings": stock.strings(),
            "string": {name: stock.string(name) for name in stock.strings()}, "aside": stock.aside(),
            "sold": stock.sold(), "beads": [bead.row() for bead in stock.beads()], "moves": stock.moves(),
            "bead": {number: stock.bead(number).row() for number in numbers},
            "where": {number: stock.where(number) for number in numbers}}


def fields_in(error):
    """The fields of a refusal by their names, but for why of those of which the document tells none."""
    names = {"NotLet": ["at", "why"], "TooLate": ["at"], "BadText": ["line"], "NoSuch": ["kind", "name"],
             "NoPlace": ["at"], "Elsewhere": ["number", "place"], "Known": ["kind", "name"], "NoShare": ["num"]}
    return [getattr(error, name) for name in names.get(type(error).__name__, [])]
