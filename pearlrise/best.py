"""The best string that some beads make, and whether they make one."""

from pearlrise.bestpaper import Asked, asked_with, check_rule, rows_of
from pearlrise.shares import Share, shares_sum


def worthiest(choices):
    """Of tuples (thing, share) the thing of the first one with the greatest share, None of none."""
    found = None
    for choice in choices:
        if found is None or found[1].is_below(choice[1]):
            found = choice
    return None if found is None else found[0]


def best_numbers(asked):
    """The numbers of a best row, from left to right, or None."""
    rows = rows_of(asked)
    lefts = []
    rights = []
    fitting = list(asked.within)
    # With one place any bead may stand in the middle.
    middles = list(asked.worths)
    for at in range(asked.halves):
        pair = worthiest([((left, right), share) for left, right, out, share in rows
                          if out == at and (left, right) in fitting])
        if pair is None:
            return None
        lefts.append(pair[0])
        rights.append(pair[1])
        fitting = asked.within[pair]
        middles = asked.middles[pair]
    if not asked.is_odd:
        return lefts + rights[::-1]
    middle = worthiest([(number, asked.worths[number]) for number in middles])
    if middle is None:
        return None
    return lefts + [middle] + rights[::-1]


def best(beads, rule, long, rates, base=1, drilled=2):
    """The greatest worth of a row that the rule lets by, and such a row; None where there is none."""
    asked = asked_with(beads, rule, long, rates, base, drilled)
    numbers = best_numbers(asked)
    if numbers is None:
        return None
    by_number = {bead.number: bead for bead in beads}
    return (shares_sum([asked.worths[number] for number in numbers]), [by_number[number] for number in numbers])


def can_make(beads, rule, long):
    """Whether there is a row of so many of the beads that the rule lets by."""
    check_rule(rule)
    # Where no bead is worth anything any row is a best one.
    asked = Asked(beads, rule, long, {bead.number: Share(0) for bead in beads})
    return best_numbers(asked) is not None
