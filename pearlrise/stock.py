"""The stock: beads, the lots with which they came, and strings of them; each bead is at just one place."""

from pearlrise.beads import bead_of
from pearlrise.deeds import check_deed
from pearlrise.errors import Elsewhere, Known, NoPlace, NoSuch, NotLet
from pearlrise.rules import barred

NEW = ("new",)
ASIDE = ("aside",)
# The words of the deeds that are done to a string that there is.
TO_A_STRING = ("break", "sell", "take", "fill")
# By the word of a deed, the first words of the places where its beads may be.
STARTS = {"string": ("lot", "aside"), "fill": ("lot", "aside"), "aside": ("lot",), "back": ("aside",)}


def numbers_in(deed):
    """The numbers of the beads that a deed asks for, in the order in which they are told."""
    if deed[0] == "string":
        return list(deed[2])
    if deed[0] == "fill":
        return [deed[3]]
    if deed[0] in ("aside", "back"):
        return [deed[1]]
    return []


class Stock:
    """Beads, lots and strings by a rule."""

    def __init__(self, rule):
        self.rule = rule
        self.bought = []
        self.by_number = {}
        self.came_with = {}
        self.places = {}
        self.strung = {}
        self.done = []

    def do(self, deed):
        """Do a deed, and tell what it moved; where it is refused nothing is changed."""
        check_deed(deed)
        # The order of the reasons is the document's; all are asked ahead of the first change.
        self.check_there(deed)
        self.check_new(deed)
        self.check_starts(deed)
        self.check_place(deed)
        self.check_let(deed)
        moved = [(number, self.places.get(number, NEW), place) for number, place in self.aims(deed)]
        self.make_ready(deed)
        for number, start, end in moved:
            self.move(number, start, end)
        if deed[0] in ("break", "sell"):
            del self.strung[deed[1]]
        self.done.extend(moved)
        return moved

    def check_there(self, deed):
        """Refuse a deed of a string or a bead that isn't there."""
        if deed[0] in TO_A_STRING and deed[1] not in self.strung:
            raise NoSuch("string", deed[1])
        for number in numbers_in(deed):
            if number not in self.by_number:
                raise NoSuch("bead", number)

    def check_new(self, deed):
        """Refuse a deed that gives a name or a number that was given already."""
        if deed[0] == "string" and deed[1] in self.strung:
            raise Known("string", deed[1])
        if deed[0] == "buy":
            if deed[1] in self.bought:
                raise Known("lot", deed[1])
            for row in deed[2]:
                if row[0] in self.by_number:
                    raise Known("bead", row[0])

    def check_starts(self, deed):
        """Refuse a deed of a bead that is not where it has to be."""
        for number in numbers_in(deed):
            if self.places[number][0] not in STARTS[deed[0]]:
                raise Elsewhere(number, self.places[number])

    def check_place(self, deed):
        """Refuse a deed at a place that isn't there, or with a gap or a bead where it may not be."""
        if deed[0] == "sell" and None in self.strung[deed[1]]:
            raise NoPlace(self.strung[deed[1]].index(None))
        if deed[0] in ("take", "fill"):
            row = self.strung[deed[1]]
            at = deed[2]
            if at >= len(row) or (row[at] is None) != (deed[0] == "fill"):
                raise NoPlace(at)

    def check_let(self, deed):
        """Refuse a deed that makes a row of beads that the rule doesn't let by."""
        found = None
        if deed[0] == "string":
            found = barred([self.by_number[number] for number in deed[2]], self.rule)
        if deed[0] == "fill":
            found = barred(self.row_with(deed[1], deed[2], deed[3]), self.rule)
        if found is not None:
            raise NotLet(found[0], found[1])

    def row_with(self, name, at, number):
        """The beads and gaps of a string, with another bead at a place."""
        numbers = self.string(name)
        numbers[at] = number
        return [None if held is None else self.by_number[held] for held in numbers]

    def aims(self, deed):
        """Where each bead goes by a deed: tuples (number, place), in the order in which they are moved."""
        word = deed[0]
        if word == "buy":
            return [(row[0], ("lot", deed[1])) for row in deed[2]]
        if word == "string":
            return [(number, ("string", deed[1], at)) for at, number in enumerate(deed[2])]
        if word == "break":
            return [(number, ASIDE) for number in self.strung[deed[1]] if number is not None]
        if word == "sell":
            return [(number, ("sold", deed[1])) for number in self.strung[deed[1]]]
        if word == "take":
            return [(self.strung[deed[1]][deed[2]], ASIDE)]
        if word == "fill":
            return [(deed[3], ("string", deed[1], deed[2]))]
        if word == "aside":
            return [(deed[1], ASIDE)]
        return [(deed[1], ("lot", self.came_with[deed[1]]))]

    def make_ready(self, deed):
        """Take in what is new by a deed: a lot with its beads, or a string, of gaps as yet."""
        if deed[0] == "buy":
            self.bought.append(deed[1])
            for row in deed[2]:
                self.by_number[row[0]] = bead_of(row)
                self.came_with[row[0]] = deed[1]
        if deed[0] == "string":
            self.strung[deed[1]] = [None for number in deed[2]]

    def move(self, number, start, end):
        """Move a bead from a place to another one."""
        if start[0] == "string":
            self.strung[start[1]][start[2]] = None
        if end[0] == "string":
            self.strung[end[1]][end[2]] = number
        self.places[number] = end

    def bead(self, number):
        """The Bead of a number."""
        if number not in self.by_number:
            raise NoSuch("bead", number)
        return self.by_number[number]

    def where(self, number):
        """The place of a bead."""
        if number not in self.places:
            raise NoSuch("bead", number)
        return self.places[number]

    def numbers_at(self, place):
        """The numbers of the beads at a place, rising."""
        return sorted([number for number in self.places if self.places[number] == place])

    def lots(self):
        """The names of the lots, as they were bought."""
        return list(self.bought)

    def of(self, lot):
        """The numbers that are still in a lot, rising."""
        if lot not in self.bought:
            raise NoSuch("lot", lot)
        return self.numbers_at(("lot", lot))

    def strings(self):
        """The names of the strings, rising."""
        return sorted(list(self.strung))

    def string(self, name):
        """The numbers on a string, None for a gap."""
        if name not in self.strung:
            raise NoSuch("string", name)
        return list(self.strung[name])

    def aside(self):
        """The numbers of the beads aside, rising."""
        return self.numbers_at(ASIDE)

    def sold(self):
        """The numbers of the beads that were sold, rising."""
        return sorted([number for number in self.places if self.places[number][0] == "sold"])

    def beads(self):
        """All beads, by their numbers."""
        return [self.by_number[number] for number in sorted(list(self.by_number))]

    def moves(self):
        """All that deeds have moved, in the order."""
        return list(self.done)

    def copied(self):
        """Another stock that stands alike and goes on by itself."""
        told = Stock(self.rule)
        told.bought = list(self.bought)
        told.by_number = dict(self.by_number)
        told.came_with = dict(self.came_with)
        told.places = dict(self.places)
        told.strung = {name: list(self.strung[name]) for name in self.strung}
        told.done = list(self.done)
        return told
