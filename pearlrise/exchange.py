"""Exchanges: a gap filled by beads of other strings, whose places are filled in turn."""

from pearlrise.errors import BadDeed, NoPlace
from pearlrise.rules import barred
from pearlrise.words import is_int, is_whole


def check_gap(stock, name, at):
    """Refuse a string that there isn't, then a place of it that is no gap."""
    row = stock.string(name)
    # Some things can't be compared with a number, so that is_whole asks their kind first.
    if not is_whole(at, 0, len(row) - 1) or row[at] is not None:
        raise NoPlace(at)


def places_on(stock, names):
    """The places, tuples (name, at), of the beads on some strings, by their numbers."""
    told = {}
    for name in names:
        for at, number in enumerate(stock.string(name)):
            if number is not None:
                told[number] = (name, at)
    return told


def free_in(stock):
    """The numbers of all free beads."""
    told = stock.aside()
    for lot in stock.lots():
        told.extend(stock.of(lot))
    return told


def fits_place(stock, place, number):
    """Whether a bead fits a place, where the string stands as it does else."""
    return barred(stock.row_with(place[0], place[1], number), stock.rule) is None


class Exchanges:
    """What exchanges for a gap are made of: its row (name, at, givers) and those to which it leads."""

    def __init__(self, stock, name, at):
        check_gap(stock, name, at)
        self.gap = (name, at)
        self.first_row = (name, at, ())
        self.others = [other for other in stock.strings() if other != name]
        self.standing = places_on(stock, self.others)
        numbers = free_in(stock) + list(self.standing)
        self.fitting = {place: [number for number in numbers if fits_place(stock, place, number)]
                        for place in [self.gap] + list(self.standing.values())}

    def free_for(self, row):
        """The numbers of the free beads that fit the place of a row."""
        return [number for number in self.fitting[(row[0], row[1])] if number not in self.standing]

    def leads(self, row):
        """The rows to which a row leads, by the numbers of the beads by which it does."""
        told = {}
        for number in self.fitting[(row[0], row[1])]:
            if number in self.standing:
                name, at = self.standing[number]
                if name not in row[2]:
                    told[number] = (name, at, tuple(sorted(list(row[2]) + [name])))
        return told


def ways_on(asked, ways):
    """To each row that is reached by one more number, the first way of all that lead there."""
    told = {}
    for row in ways:
        further = asked.leads(row)
        for number in further:
            way = ways[row] + [number]
            # What can follow hangs on the row alone, so that only the first way to it can be the first of all.
            if further[number] not in told or way < told[further[number]]:
                told[further[number]] = way
    return told


def fewest(stock, name, at):
    """The shortest exchange for a gap, of several as short the first one; None where there is none."""
    asked = Exchanges(stock, name, at)
    ways = {asked.first_row: []}
    while len(ways) > 0:
        whole = [ways[row] + [number] for row in ways for number in asked.free_for(row)]
        if len(whole) > 0:
            return min(whole)
        ways = ways_on(asked, ways)
    return None


def is_exchange(asked, numbers):
    """Whether it is an exchange for the gap."""
    if not isinstance(numbers, list) or len(numbers) == 0 or not all([is_int(number) for number in numbers]):
        return False
    row = asked.first_row
    for number in numbers[:-1]:
        further = asked.leads(row)
        if number not in further:
            return False
        row = further[number]
    return numbers[-1] in asked.free_for(row)


def chain_deeds(stock, name, at, numbers):
    """The deeds that do an exchange."""
    asked = Exchanges(stock, name, at)
    if not is_exchange(asked, numbers):
        raise BadDeed("this is no exchange for the gap")
    told = []
    empty = asked.gap
    for number in numbers:
        left = asked.standing.get(number)
        if left is not None:
            told.append(("take", left[0], left[1]))
        told.append(("fill", empty[0], empty[1], number))
        empty = left
    return told
