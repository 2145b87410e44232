"""Shares: numbers over numbers, in lowest terms."""

from pearlrise.errors import NoShare
from pearlrise.words import figures


def common_part(one, other):
    """The greatest number that divides both, which are from 0 on and not both 0."""
    while other > 0:
        one, other = other, one % other
    return one


class Share:
    """A number over another one; nothing changes it."""

    def __init__(self, num, over=1):
        if over == 0:
            raise NoShare(num)
        part = common_part(abs(num), abs(over))
        # Divided by a number below 0, over comes to stand above it, and the minus at num.
        if over < 0:
            part = -part
        self.num = num // part
        self.over = over // part

    def plus(self, other):
        """Both put together."""
        return Share(self.num * other.over + other.num * self.over, self.over * other.over)

    def minus(self, other):
        """The other one taken from this one."""
        return Share(self.num * other.over - other.num * self.over, self.over * other.over)

    def times(self, other):
        """Both multiplied."""
        return Share(self.num * other.num, self.over * other.over)

    def is_below(self, other):
        """Whether this one is less than the other one."""
        return self.num * other.over < other.num * self.over

    def __eq__(self, other):
        return isinstance(other, Share) and self.num == other.num and self.over == other.over

    def __repr__(self):
        return f"Share({figures(self.num)}, {figures(self.over)})"

    def __str__(self):
        if self.over == 1:
            return f"{figures(self.num)}"
        return f"{figures(self.num)}/{figures(self.over)}"


def shares_sum(shares):
    """The sum of all shares of a list."""
    total = Share(0)
    for share in shares:
        total = total.plus(share)
    return total
