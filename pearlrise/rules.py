"""Rules, and the rows of beads that they let by or bar."""

from pearlrise.errors import BadRule
from pearlrise.words import figures, is_from_nought


class Rule:
    """What is asked of the beads in a row; nothing changes it."""

    def __init__(self, least=0, most=10, match=0, shades=True):
        if not is_from_nought(least) or not is_from_nought(most) or not is_from_nought(match):
            raise BadRule("least, most and match are whole numbers from 0 on")
        if most < least:
            raise BadRule("most is no less than least")
        if not isinstance(shades, bool):
            raise BadRule("shades is a truth")
        self.least = least
        self.most = most
        self.match = match
        self.shades = shades

    def __eq__(self, other):
        return (isinstance(other, Rule) and self.least == other.least and self.most == other.most
                and self.match == other.match and self.shades == other.shades)

    def __repr__(self):
        parts = [figures(self.least), figures(self.most), figures(self.match)]
        return f"Rule(least={parts[0]}, most={parts[1]}, match={parts[2]}, shades={self.shades})"


def stands_ahead(beads, at):
    """Whether a bead of the same number stands ahead of the one at this place."""
    number = beads[at].number
    return any([bead is not None and bead.number == number for bead in beads[:at]])


def breaks_step(beads, at, rule):
    """Whether the step from the place ahead to the bead at this one is too small or too great."""
    if at == 0 or 2 * at == len(beads) or beads[at - 1] is None:
        return False
    rise = beads[at].across - beads[at - 1].across
    # Behind the middle beads fall, by the same bounds by which they rise ahead of it.
    if 2 * at > len(beads):
        rise = -rise
    return rise < rule.least or rise > rule.most


def partner_of(beads, at):
    """The bead across from a place of the second half, or None."""
    if 2 * at < len(beads):
        return None
    return beads[len(beads) - 1 - at]


def same_look(bead, other):
    """Whether shade, form and being drilled are alike."""
    return bead.shade == other.shade and bead.form == other.form and bead.drilled == other.drilled


def reason_at(beads, at, rule):
    """The first reason for which the bead at this place bars, or None."""
    if stands_ahead(beads, at):
        return "twice"
    if breaks_step(beads, at, rule):
        return "step"
    bead = beads[at]
    partner = partner_of(beads, at)
    if partner is None:
        return None
    if abs(bead.across - partner.across) > rule.match:
        return "match"
    if rule.shades and not same_look(bead, partner):
        return "shade"
    return None


def barred(beads, rule):
    """The first place at which a bead bars, and the reason; None where the rule lets the row by."""
    for at, bead in enumerate(beads):
        if bead is not None:
            reason = reason_at(beads, at, rule)
            if reason is not None:
                return (at, reason)
    return None
