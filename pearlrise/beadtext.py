"""Beads, shares, rules, Lots, strings and tags as texts, and how they are read."""

from pearlrise.beads import bead_of
from pearlrise.errors import BadBead, BadLot, BadRule, BadText
from pearlrise.lots import Lot
from pearlrise.rules import Rule
from pearlrise.shares import Share
from pearlrise.strings import String
from pearlrise.words import is_name, is_number, whole_in

MOST_FIGURES = 12
MOST_SHARE_FIGURES = 80
TAG_LENGTH = 10
SHADES_WORD = "shades"
ANY_WORD = "any"


def number_in(word):
    """The number that a word of a text writes, or None."""
    return whole_in(word, MOST_FIGURES)


def things_in(words, kinds):
    """The names and numbers that words write, one for each kind told; None where they are others."""
    if len(words) != len(kinds):
        return None
    told = []
    for word, kind in zip(words, kinds):
        if kind == "name":
            told.append(word if is_name(word) else None)
        else:
            told.append(number_in(word))
    return None if None in told else told


def tag(number):
    """A bead's number by just ten figures."""
    return str(number).zfill(TAG_LENGTH)


def read_tag(text):
    """The bead's number that a tag writes."""
    number = whole_in(text.lstrip("0"), TAG_LENGTH)
    if len(text) != TAG_LENGTH or not is_number(number):
        raise BadText(0)
    return number


def signed_in(word):
    """The number that a word of a share writes, perhaps with a minus ahead, or None."""
    if not word.startswith("-"):
        return whole_in(word, MOST_SHARE_FIGURES)
    number = whole_in(word[1:], MOST_SHARE_FIGURES)
    return None if number is None else -number


def read_share(text):
    """The share that a text writes."""
    num_word, stroke, over_word = text.partition("/")
    num = signed_in(num_word)
    over = 1 if stroke == "" else whole_in(over_word, MOST_SHARE_FIGURES)
    if num is None or over is None or over == 0:
        raise BadText(0)
    share = Share(num, over)
    # Minus nought, what is over 1, and what is not in lowest terms make a share, too, but it is not written so.
    if str(share) != text:
        raise BadText(0)
    return share


def bead_in(line):
    """The bead that a line writes, or None."""
    words = line.split(" ")
    # A form may be called drilled, too, so only what stands behind the form tells that the bead is.
    drilled = words[4:] == ["drilled"]
    if len(words) != 4 and not drilled:
        return None
    sizes = words[1].split("/")
    if len(sizes) != 2:
        return None
    try:
        return bead_of((number_in(words[0]), number_in(sizes[0]), number_in(sizes[1]), words[2], words[3], drilled))
    except BadBead:
        return None


def read_bead(text):
    """The bead that a text writes."""
    bead = bead_in(text)
    if bead is None:
        raise BadText(0)
    return bead


def show_beads(beads):
    """Beads, a line each."""
    return "\n".join([str(bead) for bead in beads])


def read_beads(text):
    """The beads that a text writes, a line each."""
    told = []
    if text == "":
        return told
    for at, line in enumerate(text.split("\n")):
        bead = bead_in(line)
        if bead is None:
            raise BadText(at)
        told.append(bead)
    return told


def show_rule(rule):
    """A rule as a line."""
    return f"rule {rule.least} {rule.most} {rule.match} {SHADES_WORD if rule.shades else ANY_WORD}"


def read_rule(text):
    """The rule that a line writes."""
    words = text.split(" ")
    if len(words) != 5 or words[0] != "rule" or words[4] not in (SHADES_WORD, ANY_WORD):
        raise BadText(0)
    try:
        return Rule(number_in(words[1]), number_in(words[2]), number_in(words[3]), words[4] == SHADES_WORD)
    except BadRule:
        raise BadText(0) from None


def read_lot(text):
    """The Lot that a text writes."""
    words = text.split(" ")
    if len(words) != 5:
        raise BadText(0)
    shades = () if words[4] == "-" else tuple(words[4].split(","))
    try:
        return Lot(words[0], number_in(words[1]), number_in(words[2]), number_in(words[3]), shades)
    except BadLot:
        raise BadText(0) from None


def read_string(text, rule):
    """The string that a text writes, by a rule."""
    # The string of no places has no signs.
    parts = [] if text == "" else text.split(" | ")
    return String([None if part == "-" else read_bead(part) for part in parts], rule)
