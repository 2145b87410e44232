"""What the document writes as texts, told by patterns, and texts changed at one place."""

import math
import re

NUMBER = r"(0|[1-9][0-9]{0,11})"
NAME = r"([a-z]{1,8})"
# What may be put in at any place: all kinds of signs that texts may have.
SIGNS = " \n0179-/|,+.:_aezAZ~@`{"


def changed(text):
    """The text with one sign put in, left out or exchanged, at any place."""
    told = {text + text, text + " " + text, text + "\n" + text, " " + text, text + " ", "\n" + text, text + "\n", "",
            " ", "\n", "-", text.replace(" ", "  "), text.replace(" ", "\n"), text.replace(" ", ""), text.upper()}
    for at in range(len(text) + 1):
        for sign in SIGNS:
            told.add(text[:at] + sign + text[at:])
            told.add(text[:at] + sign + text[at + 1:])
        told.add(text[:at] + text[at + 1:])
        told.add(text[:at])
        told.add(text[at:])
        told.add(text[:at] + text[at:at + 2][::-1] + text[at + 2:])
    return sorted(told)


def is_bead_text(text):
    found = re.fullmatch(rf"{NUMBER} {NUMBER}/{NUMBER} {NAME} {NAME}( drilled)?", text)
    if found is None:
        return False
    number, across, weight = [int(found.group(at)) for at in (1, 2, 3)]
    return 1 <= number <= 1000000000 and 1 <= across <= 1000000 and 1 <= weight <= 1000000


def is_share_text(text):
    found = re.fullmatch(r"(-?)(0|[1-9][0-9]{0,79})(?:/([1-9][0-9]{0,79}))?", text)
    if found is None or (found.group(1) and found.group(2) == "0"):
        return False
    if found.group(3) is None:
        return True
    return int(found.group(3)) > 1 and math.gcd(int(found.group(2)), int(found.group(3))) == 1


def is_rule_text(text):
    found = re.fullmatch(rf"rule {NUMBER} {NUMBER} {NUMBER} (shades|any)", text)
    return found is not None and int(found.group(1)) <= int(found.group(2))


def is_lot_text(text):
    found = re.fullmatch(rf"{NAME} {NUMBER} {NUMBER} {NUMBER} (-|[a-z]{{1,8}}(?:,[a-z]{{1,8}})*)", text)
    if found is None:
        return False
    room, least, most = [int(found.group(at)) for at in (2, 3, 4)]
    shades = found.group(5).split(",")
    return room <= 20 and 1 <= least <= most <= 1000000 and len(set(shades)) == len(shades)


def is_tag_text(text):
    return re.fullmatch(r"[0-9]{10}", text) is not None and 1 <= int(text) <= 1000000000


def is_string_text(text):
    return text == "" or all([part == "-" or is_bead_text(part) for part in text.split(" | ")])


def is_line_of_a_deed(line):
    """Whether a line writes a deed of one line, told by patterns."""
    if re.fullmatch(rf"(?:break|sell) {NAME}|take {NAME} {NUMBER}", line) is not None:
        return True
    if re.fullmatch(rf"(?:fill {NAME} {NUMBER}|aside|back) {NUMBER}", line) is not None:
        return 1 <= int(line.split(" ")[-1]) <= 1000000000
    if re.fullmatch(rf"string {NAME}(?: {NUMBER}){{1,9}}", line) is None:
        return False
    numbers = [int(word) for word in line.split(" ")[2:]]
    return all([1 <= number <= 1000000000 for number in numbers]) and len(set(numbers)) == len(numbers)


def is_line_of_a_lot(line):
    return re.fullmatch(rf"buy {NAME}", line) is not None


def first_wrong(lines, ahead):
    """The first line that can't be read or stand, of lines that begin with what is ahead of a deed, or None."""
    numbers = None
    for at, line in enumerate(lines):
        if numbers is not None and is_bead_text(line):
            number = line.split(" ")[0]
            if number in numbers or len(numbers) == 40:
                return at
            numbers.append(number)
            continue
        found = re.fullmatch(ahead, line)
        if found is None or numbers == [] or (ahead == "(.*)" and at > 0):
            return at
        if not is_line_of_a_deed(found.group(1)) and not is_line_of_a_lot(found.group(1)):
            return at
        numbers = [] if is_line_of_a_lot(found.group(1)) else None
    return len(lines) if numbers == [] else None


def wrong_of_deed(text):
    return 0 if text == "" else first_wrong(text.split("\n"), "(.*)")


def wrong_of_tellings(text):
    return None if text == "" else first_wrong(text.split("\n"), r"at (?:0|[1-9][0-9]{0,11}) (.*)")


def is_row_text(text):
    """Whether a text is a row of the desk, told by patterns."""
    asked = (rf"(?:(?:where|bead) {NUMBER}|lots|strings|aside|sold|moves|(?:lot|string) {NAME}"
             rf"|fewest {NAME} {NUMBER})")
    numbers = rf"((?: {NUMBER})+)"
    if is_rule_text(text) or re.fullmatch(rf"rate {NAME} {NAME} {NUMBER}|(?:then {NUMBER} )?{asked}", text):
        return True
    if text in ("by", "tellings", "in time"):
        return True
    if text.startswith("at "):
        return wrong_of_tellings(text) is None and "\nat " not in text
    lines = text.split("\n")
    found = re.fullmatch(rf"(worth|best [1-9]|pairs (?:0|[1-9][0-9]{{0,11}})|could){numbers}", lines[0])
    if found is None or (len(lines) > 1 and found.group(1) != "could"):
        return False
    told = [int(word) for word in found.group(2).split()]
    most = {"worth": 60, "best": 12, "pairs": 60, "could": 40}[found.group(1).split(" ")[0]]
    if len(told) > most or len(set(told)) < len(told) or not all([1 <= number <= 1000000000 for number in told]):
        return False
    names = [line.split(" ")[0] for line in lines[1:]]
    return len(names) <= 8 and len(set(names)) == len(names) and all([is_lot_text(line) for line in lines[1:]])
