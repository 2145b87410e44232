"""Papers that bar better strings: how one is made, and whether one shows what it has to."""

from pearlrise.errors import BadRule
from pearlrise.rules import same_look
from pearlrise.shares import Share
from pearlrise.words import is_int, is_whole
from pearlrise.worths import worth

ROW_LENGTH = 4


def check_rule(rule):
    """Refuse a rule by which a bead could stand around itself."""
    if rule.least <= rule.match:
        raise BadRule("least has to be above match")


def may_be_partners(left, right, rule):
    """Whether two beads are a pair."""
    if left.number == right.number or abs(left.across - right.across) > rule.match:
        return False
    return not rule.shades or same_look(left, right)


def may_stand_next(bead, outer, rule):
    """Whether a bead may stand next to one further out."""
    return rule.least <= bead.across - outer.across <= rule.most


def pairs_of(beads, rule):
    """All pairs, left and right, by their numbers, rising."""
    found = [(left.number, right.number) for left in beads for right in beads if may_be_partners(left, right, rule)]
    return sorted(found)


class Asked:
    """What is asked: how long a string is, what each bead is worth, and what may stand within each pair."""

    def __init__(self, beads, rule, long, worths):
        inner = {bead.number: [other.number for other in beads if may_stand_next(other, bead, rule)]
                 for bead in beads}
        found = pairs_of(beads, rule)
        self.worths = worths
        self.halves = long // 2
        self.is_odd = long % 2 == 1
        self.within = {(left, right): [pair for pair in found if pair[0] in inner[left] and pair[1] in inner[right]]
                       for left, right in found}
        self.middles = {(left, right): [number for number in inner[left] if number in inner[right]]
                        for left, right in found}

    def worth_with(self, pair, share):
        """The worths of both of a pair, and a share, together."""
        return self.worths[pair[0]].plus(self.worths[pair[1]]).plus(share)

    def goes_on_by(self, pair, out, inner):
        """The shares by which a pair at an out is gone on; inner are those of the rows of out + 1, by their pairs."""
        if out + 1 < self.halves:
            return [inner[other] for other in self.within[pair] if other in inner]
        if self.is_odd:
            return [self.worths[number] for number in self.middles[pair]]
        return [Share(0)]


def asked_with(beads, rule, long, rates, base, drilled):
    """What is asked, refused as the document tells."""
    check_rule(rule)
    return Asked(beads, rule, long, {bead.number: worth(bead, rates, base, drilled) for bead in beads})


def greatest(shares):
    """The greatest one of a list of shares that is not empty."""
    found = shares[0]
    for share in shares:
        if found.is_below(share):
            found = share
    return found


def rows_of(asked):
    """The rows of the paper, rising by out, then left, then right."""
    told = []
    inner = {}
    for out in reversed(range(asked.halves)):
        here = {}
        for pair in asked.within:
            shares = asked.goes_on_by(pair, out, inner)
            if len(shares) > 0:
                here[pair] = asked.worth_with(pair, greatest(shares))
        told = [(left, right, out, here[(left, right)]) for left, right in here] + told
        inner = here
    return told


def best_paper(beads, rule, long, rates, base=1, drilled=2):
    """The paper that bars all that is better than the best string."""
    return rows_of(asked_with(beads, rule, long, rates, base, drilled))


def is_row(asked, row):
    """Whether a thing is a row of a paper."""
    if not isinstance(row, tuple) or len(row) != ROW_LENGTH:
        return False
    left, right, out, share = row
    # A truth equals a number, and some things can't be looked for among keys, so kinds are asked first.
    if not is_int(left) or not is_int(right) or not is_whole(out, 0, asked.halves - 1):
        return False
    return isinstance(share, Share) and (left, right) in asked.within


def shares_by_out(asked, paper):
    """For each out a dict from the pairs that have rows to their shares; None where this is no paper."""
    if not isinstance(paper, list):
        return None
    told = [{} for out in range(asked.halves)]
    for row in paper:
        if not is_row(asked, row):
            return None
        left, right, out, share = row
        if (left, right) in told[out]:
            return None
        told[out][(left, right)] = share
    return told


def has_all(asked, out, here, inner):
    """Whether each pair that is gone on at an out has a row there whose share is no less than it has to be."""
    for pair in asked.within:
        shares = asked.goes_on_by(pair, out, inner)
        if len(shares) > 0:
            if pair not in here or here[pair].is_below(asked.worth_with(pair, greatest(shares))):
                return False
    return True


def none_above(shares, most):
    """Whether none of the shares is above most."""
    return not any([most.is_below(share) for share in shares])


def bars_better(beads, rule, long, rates, most, paper, base=1, drilled=2):
    """Whether a paper, whatever it is, shows that no row is worth more than most."""
    asked = asked_with(beads, rule, long, rates, base, drilled)
    told = shares_by_out(asked, paper)
    if told is None:
        return False
    if long == 1:
        return none_above(list(asked.worths.values()), most)
    # Behind the inmost rows there are none.
    behind = told[1:] + [{}]
    for out, here in enumerate(told):
        if not has_all(asked, out, here, behind[out]):
            return False
    return none_above([share for here in told[:1] for share in here.values()], most)
