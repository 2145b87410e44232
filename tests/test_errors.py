"""[1.6]: the refusals."""

import unittest

from pearlrise.errors import (BadBead, BadDeed, BadLot, BadRule, BadText, Elsewhere, Known, NoPlace, NoRow, NoShare,
                              NoSuch, NotLet, PearlError, TooLate)

PLAIN = [PearlError, BadBead, BadRule, BadLot, BadDeed, NoRow]
FIELDS = [(NotLet, {"at": 3, "why": "step"}), (TooLate, {"at": 4}), (BadText, {"line": 2}),
          (NoSuch, {"kind": "rate", "name": ("rose", "round")}), (NoPlace, {"at": 5}),
          (Elsewhere, {"number": 7, "place": ("lot", "ab")}), (Known, {"kind": "bead", "name": 9}),
          (NoShare, {"num": -12})]
STRAIGHT = {PearlError: ValueError, BadBead: PearlError, BadRule: PearlError, BadLot: PearlError, BadDeed: PearlError,
            NoRow: PearlError, NotLet: PearlError, TooLate: PearlError, BadText: PearlError, NoSuch: LookupError,
            NoPlace: IndexError, Elsewhere: KeyError, Known: KeyError, NoShare: ZeroDivisionError}
PYTHONS = [ValueError, LookupError, IndexError, KeyError, ZeroDivisionError, ArithmeticError, TypeError, RuntimeError,
           AttributeError, OverflowError, StopIteration, NotImplementedError, OSError, UnicodeError]


def above(kind):
    """All kinds, Python's and the package's, under which it stands as the document tells."""
    told = [kind]
    while kind in STRAIGHT:
        kind = STRAIGHT[kind]
        told.append(kind)
    while kind.__base__ is not None:
        kind = kind.__base__
        told.append(kind)
    return told


def made(kind):
    """One of this kind."""
    if kind in PLAIN:
        return kind("so")
    return kind(**dict(FIELDS)[kind])


class Refusals(unittest.TestCase):
    def test_there_are_fourteen(self):
        self.assertEqual(len(STRAIGHT), 14)
        self.assertEqual(len(PLAIN) + len(FIELDS), 14)

    def test_why_by_place_by_name_and_left_out(self):
        for kind in PLAIN:
            self.assertEqual(kind("so it is").why, "so it is")
            self.assertEqual(kind(why="so it is").why, "so it is")
            self.assertIs(type(kind().why), str)

    def test_fields_by_place_and_by_name(self):
        for kind, fields in FIELDS:
            for refusal in (kind(*fields.values()), kind(**fields), kind(**dict(reversed(list(fields.items()))))):
                for name, value in fields.items():
                    self.assertEqual(getattr(refusal, name), value)
                    self.assertIs(type(getattr(refusal, name)), type(value))

    def test_all_under_pearl_error_bear_a_text(self):
        for kind in STRAIGHT:
            if PearlError in above(kind):
                self.assertIs(type(made(kind).why), str)

    def test_straight_under(self):
        for kind, base in STRAIGHT.items():
            self.assertEqual(kind.__bases__, (base,))

    def test_stands_under_just_these(self):
        for kind in STRAIGHT:
            refusal = made(kind)
            for other in list(STRAIGHT) + PYTHONS:
                self.assertIs(isinstance(refusal, other), other in above(kind), (kind, other))

    def test_caught_by_those_above_alone(self):
        for kind in STRAIGHT:
            for other in list(STRAIGHT) + PYTHONS:
                try:
                    try:
                        raise made(kind)
                    except other as caught:
                        self.assertIn(other, above(kind))
                        self.assertIsInstance(caught, kind)
                except Exception as passed:
                    if isinstance(passed, AssertionError):
                        raise
                    self.assertIsInstance(passed, kind)
                    self.assertNotIn(other, above(kind))

    def test_each_is_of_its_own(self):
        for kind in STRAIGHT:
            self.assertIs(type(made(kind)), kind)
            str(made(kind))
            repr(made(kind))


if __name__ == "__main__":
    unittest.main()
