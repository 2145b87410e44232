"""Deeds and tellings as texts, and how they are read."""

from pearlrise.beads import bead_of
from pearlrise.beadtext import bead_in, number_in, show_beads, things_in
from pearlrise.book import check_time
from pearlrise.deeds import FORMS, MOST_BOUGHT, check_deed, is_deed
from pearlrise.errors import BadText
from pearlrise.words import is_name


def show_deed(deed):
    """A deed as a text; that of one that buys has a line for each bead more."""
    check_deed(deed)
    if deed[0] == "buy":
        lines = show_beads([bead_of(row) for row in deed[2]])
        return f"buy {deed[1]}\n{lines}"
    things = list(deed)
    if deed[0] == "string":
        things = ["string", deed[1]] + list(deed[2])
    return " ".join([str(thing) for thing in things])


def things_of(words):
    """The things of a deed of one line, as its words write them; None where they write none."""
    if words[0] not in FORMS:
        return None
    if words[0] == "string":
        # How many numbers stand there, and that they are unlike, is asked of the whole deed.
        return words[1:2] + [tuple([number_in(word) for word in words[2:]])]
    return things_in(words[1:], FORMS[words[0]])


def deed_in(words):
    """The deed that the words of one line write, or None."""
    things = things_of(words)
    if things is None:
        return None
    deed = (words[0],) + tuple(things)
    return deed if is_deed(deed) else None


def rows_from(lines, start):
    """The rows of the beads of a lot that stand from a line on, up to the first line that writes a telling, or all."""
    rows = []
    numbers = []
    for at in range(start, len(lines)):
        if len(rows) > 0 and lines[at].startswith("at "):
            return rows
        bead = bead_in(lines[at])
        if bead is None or bead.number in numbers or len(rows) == MOST_BOUGHT:
            raise BadText(at)
        rows.append(bead.row())
        numbers.append(bead.number)
    if len(rows) == 0:
        raise BadText(len(lines))
    return rows


def deed_from(words, lines, at):
    """The deed whose first line, at a line, has these words; the lines behind it may be those of its beads."""
    if words[0] == "buy":
        if len(words) != 2 or not is_name(words[1]):
            raise BadText(at)
        return ("buy", words[1], tuple(rows_from(lines, at + 1)))
    deed = deed_in(words)
    if deed is None:
        raise BadText(at)
    return deed


def lines_of(deed):
    """How many lines a deed is written by."""
    return 1 + len(deed[2]) if deed[0] == "buy" else 1


def read_deed(text):
    """The deed that a text writes."""
    lines = text.split("\n")
    deed = deed_from(lines[0].split(" "), lines, 0)
    if lines_of(deed) < len(lines):
        raise BadText(lines_of(deed))
    return deed


def show_tellings(tellings):
    """Tellings, tuples (time, deed), one behind another."""
    for time, deed in tellings:
        check_time(time)
    return "\n".join([f"at {time} {show_deed(deed)}" for time, deed in tellings])


def telling_from(lines, at):
    """The telling that is written from a line on."""
    words = lines[at].split(" ")
    time = number_in(words[1]) if len(words) > 2 and words[0] == "at" else None
    if time is None:
        raise BadText(at)
    return (time, deed_from(words[2:], lines, at))


def read_tellings(text):
    """The tellings that a text writes, as a list of tuples (time, deed)."""
    told = []
    lines = [] if text == "" else text.split("\n")
    at = 0
    while at < len(lines):
        telling = telling_from(lines, at)
        told.append(telling)
        at += lines_of(telling[1])
    return told
