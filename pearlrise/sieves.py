"""Holes, and the sieves by which beads are sorted."""

from pearlrise.beads import is_measure
from pearlrise.errors import BadRule

MOST_HOLES = 40


def check_holes(holes):
    """Refuse what is no list of holes."""
    if not isinstance(holes, list) or len(holes) > MOST_HOLES:
        raise BadRule("holes are a list of at most forty")
    ahead = 0
    for hole in holes:
        # What is no number can't be compared, so that is asked first.
        if not is_measure(hole) or hole <= ahead:
            raise BadRule("a hole is a number above the one ahead of it")
        ahead = hole


def holes_below(bead, holes):
    """How many of the holes are below what the bead is across."""
    return len([hole for hole in holes if hole < bead.across])


def sieve_of(bead, holes):
    """The sieve of a bead."""
    check_holes(holes)
    return holes_below(bead, holes)


def sifted(beads, holes):
    """For each sieve, from 0 on, the list of the beads that have it."""
    check_holes(holes)
    told = [[] for sieve in range(len(holes) + 1)]
    for bead in beads:
        told[holes_below(bead, holes)].append(bead)
    return told
