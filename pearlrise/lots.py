"""Lots: what a lot may have given, and which beads it fits."""

from pearlrise.beads import GREATEST_MEASURE, is_measure
from pearlrise.errors import BadLot
from pearlrise.words import is_name, is_whole

MOST_ROOM = 20


def are_shades(thing):
    """Whether it is a tuple of unlike names."""
    if not isinstance(thing, tuple) or not all([is_name(shade) for shade in thing]):
        return False
    return len(set(thing)) == len(thing)


class Lot:
    """What a lot may have given; nothing changes it."""

    def __init__(self, name, room, least=1, most=GREATEST_MEASURE, shades=None):
        if not is_name(name):
            raise BadLot("a Lot's name is a name")
        if not is_whole(room, 0, MOST_ROOM):
            raise BadLot("room is a whole number from 0 to 20")
        if not is_measure(least) or not is_measure(most) or most < least:
            raise BadLot("least and most are as far as a bead may be across, most no less than least")
        if shades is not None and not are_shades(shades):
            raise BadLot("shades are a tuple of unlike names")
        self.name = name
        self.room = room
        self.least = least
        self.most = most
        self.shades = () if shades is None else shades

    def fits(self, bead):
        """Whether a bead may be of this Lot."""
        if not self.least <= bead.across <= self.most:
            return False
        return self.shades == () or bead.shade in self.shades

    def __len__(self):
        return len(range(self.room))

    def __eq__(self, other):
        return (isinstance(other, Lot) and self.name == other.name and self.room == other.room
                and self.least == other.least and self.most == other.most
                and sorted(self.shades) == sorted(other.shades))

    def __repr__(self):
        parts = [f"{self.name!r}, {self.room}"]
        if self.least != 1:
            parts.append(f"least={self.least}")
        if self.most != GREATEST_MEASURE:
            parts.append(f"most={self.most}")
        if self.shades != ():
            parts.append(f"shades={self.shades!r}")
        return f"Lot({', '.join(parts)})"

    def __str__(self):
        if self.shades == ():
            return f"{self.name} {self.room} {self.least} {self.most} -"
        return f"{self.name} {self.room} {self.least} {self.most} {','.join(self.shades)}"
