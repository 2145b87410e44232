"""Deeds: the forms that they have."""

from pearlrise.beads import bead_of
from pearlrise.errors import BadBead, BadDeed
from pearlrise.words import is_from_nought, is_name, is_number

MOST_BOUGHT = 40
MOST_STRUNG = 9
# What stands behind each word, in order.
FORMS = {
    "buy": ("name", "rows"),
    "string": ("name", "numbers"),
    "break": ("name",),
    "sell": ("name",),
    "take": ("name", "at"),
    "fill": ("name", "at", "number"),
    "aside": ("number",),
    "back": ("number",),
}


def are_numbers(thing):
    """Whether it is a tuple of the numbers of a string."""
    if not isinstance(thing, tuple) or not 1 <= len(thing) <= MOST_STRUNG:
        return False
    return all([is_number(number) for number in thing]) and len(set(thing)) == len(thing)


def are_rows(thing):
    """Whether it is a tuple of the rows of a lot."""
    if not isinstance(thing, tuple) or not 1 <= len(thing) <= MOST_BOUGHT:
        return False
    try:
        numbers = [bead_of(row).number for row in thing]
    except BadBead:
        return False
    return len(set(numbers)) == len(numbers)


def is_of_kind(thing, kind):
    """Whether a thing of a deed is of the kind that its form asks for."""
    if kind == "name":
        return is_name(thing)
    if kind == "at":
        return is_from_nought(thing)
    if kind == "number":
        return is_number(thing)
    if kind == "numbers":
        return are_numbers(thing)
    return are_rows(thing)


def is_deed(thing):
    """Whether it is a deed of one of the forms."""
    if not isinstance(thing, tuple) or len(thing) == 0:
        return False
    word = thing[0]
    # What is no text may be no key of a dict, so that is asked first.
    if not isinstance(word, str) or word not in FORMS:
        return False
    form = FORMS[word]
    if len(thing) != len(form) + 1:
        return False
    return all([is_of_kind(part, kind) for part, kind in zip(thing[1:], form)])


def check_deed(deed):
    """Refuse what is no deed."""
    if not is_deed(deed):
        raise BadDeed("this is no deed")
