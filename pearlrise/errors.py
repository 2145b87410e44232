"""The refusals: one class for each, bearing what the document tells of it."""


class PearlError(ValueError):
    """What stands above all refusals of things that are not as they have to be."""

    def __init__(self, why=""):
        ValueError.__init__(self, why)
        self.why = why


class BadBead(PearlError):
    """What makes no bead."""


class BadRule(PearlError):
    """What makes no rule, or is no list of holes."""


class BadLot(PearlError):
    """What makes no Lot."""


class BadDeed(PearlError):
    """What is no deed."""


class NoRow(PearlError):
    """What is no row of the desk."""


class NotLet(PearlError):
    """A row of beads that the rule does not let by."""

    def __init__(self, at, why):
        PearlError.__init__(self, why)
        self.at = at


class TooLate(PearlError):
    """A deed told so late that one behind it would be refused."""

    def __init__(self, at):
        PearlError.__init__(self, "a deed that stands behind it would be refused")
        self.at = at


class BadText(PearlError):
    """A text that can't be read."""

    def __init__(self, line):
        PearlError.__init__(self, "a line can't be read")
        self.line = line


class NoSuch(LookupError):
    """A thing that there isn't."""

    def __init__(self, kind, name):
        LookupError.__init__(self, "there is no such thing")
        self.kind = kind
        self.name = name


class NoPlace(IndexError):
    """A place that isn't there, or where something else stands."""

    def __init__(self, at):
        IndexError.__init__(self, "there is no such place")
        self.at = at


class Elsewhere(KeyError):
    """A bead that is not where it has to be."""

    def __init__(self, number, place):
        KeyError.__init__(self, "the bead is elsewhere")
        self.number = number
        self.place = place


class Known(KeyError):
    """A name or a number that was given already."""

    def __init__(self, kind, name):
        KeyError.__init__(self, "it is known already")
        self.kind = kind
        self.name = name


class NoShare(ZeroDivisionError):
    """A share over nought."""

    def __init__(self, num):
        ZeroDivisionError.__init__(self, "a share is over nought")
        self.num = num
