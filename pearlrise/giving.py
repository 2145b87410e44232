"""Givings: which lots beads can be of, and the beads that are too many."""

from pearlrise.beads import are_once


def lots_for(beads, lots):
    """For each bead's number the places, in lots, of all that fit it."""
    return {bead.number: [at for at, lot in enumerate(lots) if lot.fits(bead)] for bead in beads}


def given_to(given, at):
    """The numbers that are given to the lot at a place."""
    return [number for number in given if given[number] == at]


def has_room(lots, given, at):
    """Whether the lot at a place may be given one more."""
    return len(given_to(given, at)) < lots[at].room


def reached(starts, fitting, given):
    """What is reached from beads, as a bead reaches all lots that fit it, and a lot all beads it was given.

    Told are a dict from each such lot to the number by which it was reached first, and all these numbers.
    """
    by_whom = {}
    numbers = list(starts)
    done = 0
    while done < len(numbers):
        number = numbers[done]
        done += 1
        for at in fitting[number]:
            if at not in by_whom:
                by_whom[at] = number
                fresh = [other for other in given_to(given, at) if other not in numbers]
                numbers.extend(fresh)
    return (by_whom, numbers)


def moved_up(given, by_whom, last):
    """Another giving, in which each bead on the way to the last lot goes to the lot that it reached."""
    told = dict(given)
    at = last
    while at is not None:
        number = by_whom[at]
        told[number] = at
        at = given.get(number)
    return told


def fullest(fitting, lots):
    """A fullest giving, from numbers to places in lots."""
    given = {}
    for number in fitting:
        by_whom = reached([number], fitting, given)[0]
        free = [at for at in by_whom if has_room(lots, given, at)]
        if len(free) > 0:
            given = moved_up(given, by_whom, free[0])
    return given


def giving(beads, lots):
    """A giving of all beads, from numbers to names of lots; None where there is none."""
    given = fullest(lots_for(beads, lots), lots)
    if len(given) < len(beads):
        return None
    return {bead.number: lots[given[bead.number]].name for bead in beads}


def could_be(beads, lots):
    """For each bead's number the names of all lots to which some giving of all beads gives it."""
    fitting = lots_for(beads, lots)
    given = fullest(fitting, lots)
    if len(given) < len(beads):
        return {number: [] for number in fitting}
    # To take a bead a lot hands one on, that lot another one, and so on to a lot with room or to the bead's own.
    hands_on = [[at] + list(reached(given_to(given, at), fitting, given)[0]) for at in range(len(lots))]
    finds_room = [any([has_room(lots, given, other) for other in hands_on[at]]) for at in range(len(lots))]
    return {number: [lots[at].name for at in fitting[number] if finds_room[at] or given[number] in hands_on[at]]
            for number in fitting}


def too_many(beads, lots):
    """The numbers of all beads that some fullest giving leaves out, rising; None where there is a whole one."""
    fitting = lots_for(beads, lots)
    given = fullest(fitting, lots)
    if len(given) == len(beads):
        return None
    return sorted(reached([number for number in fitting if number not in given], fitting, given)[1])


def bars_giving(beads, lots, numbers):
    """Whether numbers, whatever they are, bar a giving of all beads."""
    by_number = {bead.number: bead for bead in beads}
    if not isinstance(numbers, list) or not are_once(numbers, by_number):
        return False
    rooms = [lot.room for lot in lots if any([lot.fits(by_number[number]) for number in numbers])]
    return sum(rooms) < len(numbers)
