"""Strings: rows of beads and gaps that a rule lets by."""

from pearlrise.errors import NoPlace, NotLet
from pearlrise.rules import barred


class String:
    """A row of beads and gaps with the rule that lets it by; nothing changes it."""

    def __init__(self, beads, rule):
        found = barred(beads, rule)
        if found is not None:
            raise NotLet(found[0], found[1])
        # A tuple, so that neither the list handed in nor one that is told can change the string.
        self.held = tuple(beads)
        self.rule = rule

    def beads(self):
        """The row, a gap as None."""
        return list(self.held)

    def gaps(self):
        """The places of the gaps, rising."""
        return [at for at, bead in enumerate(self.held) if bead is None]

    def turned(self):
        """The string of the row turned about."""
        return String(list(self.held[::-1]), self.rule)

    def filled(self, at, bead):
        """The string with a bead in the gap at a place."""
        if at not in self.gaps():
            raise NoPlace(at)
        return self.changed_at(at, bead)

    def emptied(self, at):
        """The string with a gap where a bead stands."""
        if at not in range(len(self.held)) or self.held[at] is None:
            raise NoPlace(at)
        return self.changed_at(at, None)

    def changed_at(self, at, bead):
        """The string with another bead, or a gap, at a place."""
        row = self.beads()
        row[at] = bead
        return String(row, self.rule)

    def __len__(self):
        return len(self.held)

    def __eq__(self, other):
        return (isinstance(other, String) and self.rule == other.rule
                and (self.held == other.held or self.held == other.held[::-1]))

    def __repr__(self):
        return f"String({list(self.held)!r}, {self.rule!r})"

    def __str__(self):
        return " | ".join(["-" if bead is None else str(bead) for bead in self.held])
