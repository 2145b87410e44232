"""The book: deeds told with their times, in any order of times."""

from pearlrise.errors import BadDeed, Elsewhere, Known, NoPlace, NoSuch, NotLet, TooLate
from pearlrise.stock import Stock
from pearlrise.words import is_from_nought


def check_time(time):
    """Refuse what is no time of a telling."""
    if not is_from_nought(time):
        raise BadDeed("a time is a whole number from 0 on")


def stock_by(rule, deeds):
    """A stock that has done some deeds."""
    told = Stock(rule)
    for deed in deeds:
        told.do(deed)
    return told


class Book:
    """Tellings by a rule; a stock is always made anew of them, so that none that was told is the book's own."""

    def __init__(self, rule):
        self.rule = rule
        self.held = []

    def tell(self, time, deed):
        """Take in a deed, and tell what it moves in its time; where it is refused nothing is changed."""
        check_time(time)
        then = self.stock_at(time)
        moved = then.do(deed)
        for at in self.standing_order():
            if self.held[at][0] > time:
                self.do_behind(then, at)
        self.held.append((time, deed))
        return moved

    def do_behind(self, then, at):
        """Do a telling that stands behind one that is told late."""
        try:
            then.do(self.held[at][1])
        except (NoSuch, Known, Elsewhere, NoPlace, NotLet):
            raise TooLate(at) from None

    def standing_order(self):
        """The numbers of the tellings, by their times, those of one time as they were told."""
        return sorted(range(len(self.held)), key=lambda at: (self.held[at][0], at))

    def stock(self):
        """A stock that has done all tellings."""
        return stock_by(self.rule, [deed for time, deed in self.in_time()])

    def stock_at(self, time):
        """A stock that has done the tellings up to a time."""
        return stock_by(self.rule, [deed for told, deed in self.in_time() if told <= time])

    def tellings(self):
        """All tellings, tuples (time, deed), as they were told."""
        return list(self.held)

    def in_time(self):
        """All tellings, tuples (time, deed), as they stand."""
        return [self.held[at] for at in self.standing_order()]
