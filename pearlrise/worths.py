"""What beads are worth."""

from pearlrise.errors import NoSuch
from pearlrise.shares import Share, shares_sum


def worth(bead, rates, base=1, drilled=2):
    """What a bead is worth by the rates."""
    pair = (bead.shade, bead.form)
    if pair not in rates:
        raise NoSuch("rate", pair)
    num = rates[pair] * bead.weight * bead.weight
    if bead.drilled:
        return Share(num, base * drilled)
    return Share(num, base)


def worth_of(beads, rates, base=1, drilled=2):
    """What beads are worth together."""
    return shares_sum([worth(bead, rates, base, drilled) for bead in beads])
