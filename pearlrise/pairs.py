"""Beads in pairs: clusters, the most pairs, and what shows that there are no more."""

from pearlrise.beads import are_once
from pearlrise.rules import same_look


def may_pair(bead, other, match):
    """Whether two beads pair."""
    return same_look(bead, other) and abs(bead.across - other.across) <= match


def chain_key(bead):
    """The tuple by which beads that look alike come together, by across, then by number."""
    return (bead.shade, bead.form, bead.drilled, bead.across, bead.number)


def clusters(beads, match=0):
    """The clusters as lists of numbers, by the least number of each."""
    told = []
    ahead = None
    for bead in sorted(beads, key=chain_key):
        # In this order a bead that pairs with any ahead of it pairs with the one just ahead.
        if ahead is None or not may_pair(ahead, bead, match):
            told.append([])
        told[-1].append(bead.number)
        ahead = bead
    return sorted(told, key=min)


def most_pairs(beads, match=0):
    """As many pairs of numbers as there can be, rising, the lesser number of each first."""
    told = []
    for cluster in clusters(beads, match):
        for at in range(1, len(cluster), 2):
            told.append((min(cluster[at - 1], cluster[at]), max(cluster[at - 1], cluster[at])))
    return sorted(told)


def are_pairs(pairs, by_number, match):
    """Whether it is a list of pairs of beads that pair, no number twice in all."""
    if not isinstance(pairs, list) or not all([isinstance(pair, tuple) and len(pair) == 2 for pair in pairs]):
        return False
    if not are_once([number for pair in pairs for number in pair], by_number):
        return False
    return all([may_pair(by_number[one], by_number[other], match) for one, other in pairs])


def are_groups(groups, by_number):
    """Whether it is a list of lists in which each bead's number stands once, and nothing else."""
    if not isinstance(groups, list) or not all([isinstance(group, list) for group in groups]):
        return False
    numbers = [number for group in groups for number in group]
    return are_once(numbers, by_number) and len(numbers) == len(by_number)


def pairs_across(groups, by_number, match):
    """Whether some bead pairs with one of another group."""
    for at, group in enumerate(groups):
        others = [by_number[number] for other in groups[:at] for number in other]
        for number in group:
            if any([may_pair(by_number[number], other, match) for other in others]):
                return True
    return False


def shows(beads, pairs, groups, match=0):
    """Whether pairs and groups, whatever they are, show that there can't be more pairs than these."""
    by_number = {bead.number: bead for bead in beads}
    if not are_pairs(pairs, by_number, match) or not are_groups(groups, by_number):
        return False
    if pairs_across(groups, by_number, match):
        return False
    odd = [group for group in groups if len(group) % 2 == 1]
    return len(by_number) - 2 * len(pairs) == len(odd)
