"""Whole numbers, names, beads' numbers, and words of figures."""

FIGURES = "0123456789"
LONGEST_NAME = 8
GREATEST_NUMBER = 1000000000
GROUP_FIGURES = 60
GROUP = 10 ** 60


def is_int(thing):
    """Whether it is a whole number: an int that is no truth."""
    return isinstance(thing, int) and not isinstance(thing, bool)


def is_whole(thing, least, most):
    """Whether it is a whole number from least to most."""
    return is_int(thing) and least <= thing <= most


def is_from_nought(thing):
    """Whether it is a whole number from 0 on, however great."""
    return is_int(thing) and thing >= 0


def is_name(thing):
    """Whether it is a text of one to eight small letters."""
    if not isinstance(thing, str) or not 1 <= len(thing) <= LONGEST_NAME:
        return False
    return all(["a" <= sign <= "z" for sign in thing])


def is_number(thing):
    """Whether it is a bead's number."""
    return is_whole(thing, 1, GREATEST_NUMBER)


def whole_in(word, most):
    """The number that a word of one to most figures writes, or None."""
    if not 1 <= len(word) <= most:
        return None
    # Asked sign by sign: int itself takes blanks, signs and figures of other scripts.
    if not all([sign in FIGURES for sign in word]):
        return None
    if word[0] == "0" and len(word) > 1:
        return None
    return int(word)


def figures(number):
    """The text of a whole number, however great."""
    # Python's own str refuses a number of some thousand figures, so it is handed only groups of them.
    groups = []
    rest = abs(number)
    while rest >= GROUP:
        rest, group = divmod(rest, GROUP)
        groups.append(str(group).zfill(GROUP_FIGURES))
    groups.append(str(rest))
    if number < 0:
        groups.append("-")
    return "".join(groups[::-1])
