"""Beads: how they are made, compared, put in order, shown and counted."""

from pearlrise.errors import BadBead
from pearlrise.words import is_int, is_name, is_number, is_whole

GREATEST_MEASURE = 1000000
ROW_LENGTH = 6


def is_measure(thing):
    """Whether a bead may be so far across, or weigh so much."""
    return is_whole(thing, 1, GREATEST_MEASURE)


class Bead:
    """A bead; nothing changes it. Its number tells it from others, but beads are equal without it."""

    def __init__(self, number, across, weight, shade, form="round", drilled=False):
        if not is_number(number):
            raise BadBead("what is told is no bead's number")
        if not is_measure(across) or not is_measure(weight):
            raise BadBead("a bead is not so far across, or does not weigh so much")
        if not is_name(shade) or not is_name(form):
            raise BadBead("shade and form are names")
        if not isinstance(drilled, bool):
            raise BadBead("whether a bead is drilled is a truth")
        self.number = number
        self.across = across
        self.weight = weight
        self.shade = shade
        self.form = form
        self.drilled = drilled

    def row(self):
        """The tuple of what the bead is made of."""
        return (self.number, self.across, self.weight, self.shade, self.form, self.drilled)

    def key(self):
        """The tuple by which beads are put in order."""
        return (self.across, self.weight, self.shade, self.form, self.drilled, self.number)

    def __eq__(self, other):
        return (isinstance(other, Bead) and self.across == other.across and self.weight == other.weight
                and self.shade == other.shade and self.form == other.form and self.drilled == other.drilled)

    def __repr__(self):
        parts = [f"{self.number}, {self.across}, {self.weight}, {self.shade!r}"]
        if self.form != "round":
            parts.append(f"form={self.form!r}")
        if self.drilled:
            parts.append("drilled=True")
        return f"Bead({', '.join(parts)})"

    def __str__(self):
        if self.drilled:
            return f"{self.number} {self.across}/{self.weight} {self.shade} {self.form} drilled"
        return f"{self.number} {self.across}/{self.weight} {self.shade} {self.form}"


def bead_of(row):
    """The bead that is made of a row."""
    if not isinstance(row, tuple) or len(row) != ROW_LENGTH:
        raise BadBead("a bead's row is a tuple of six")
    number, across, weight, shade, form, drilled = row
    return Bead(number, across, weight, shade, form, drilled)


def in_order(beads):
    """A new list of the beads, their keys rising."""
    return sorted(beads, key=lambda bead: bead.key())


def unlike(beads):
    """A new list of the beads, of equal ones the first one alone."""
    told = []
    for bead in beads:
        if bead not in told:
            told.append(bead)
    return told


def how_many(beads, bead):
    """How many of the beads equal a bead."""
    return beads.count(bead)


def are_once(numbers, by_number):
    """Whether all things of a list are numbers of the beads, none of them twice."""
    # A truth equals a number, and some things can't be looked for among keys, so kinds are asked first.
    if not all([is_int(number) and number in by_number for number in numbers]):
        return False
    return len(set(numbers)) == len(numbers)
