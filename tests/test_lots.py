"""[7.1] to [7.3]: Lots."""

import itertools
import unittest

from pearlrise.beads import Bead
from pearlrise.errors import BadLot, PearlError
from pearlrise.lots import Lot
from tests.things import Keyless, no_names, no_wholes, others

NAMES = ("name", "room", "least", "most", "shades")
FULL = ("ab", 3, 2, 9, ("rose", "white"))
GREAT = 10 ** 40


def fields(lot):
    return tuple([getattr(lot, name) for name in NAMES])


def told_with(name, value):
    """The five of FULL, with one of them another."""
    told = dict(zip(NAMES, FULL))
    told[name] = value
    return told


def wrong(name):
    """What a Lot can't be made of, at one of the five, the other ones as FULL has them."""
    if name == "name":
        return no_names()
    if name == "room":
        return no_wholes() + [-1, 21, 22, GREAT, -GREAT]
    if name == "least":
        return no_wholes() + [0, -1, 10, 1000000, GREAT, -GREAT]
    if name == "most":
        return no_wholes() + [1, 0, -1, 1000001, GREAT, -GREAT]
    # Some of these are what shades may be.
    told = [thing for thing in no_names() if thing not in (None, (), ("ab",))]
    told += [("rose", "rose"), ("rose", "white", "rose"), ["rose"], {"rose": 1}, {"rose"}, "rose", (("rose",),)]
    return told + [("rose", thing) for thing in no_names()] + [(thing,) for thing in no_names()]


class Made(unittest.TestCase):
    def test_by_places(self):
        self.assertEqual(fields(Lot(*FULL)), FULL)
        self.assertIs(type(Lot(*FULL).shades), tuple)
        self.assertEqual(fields(Lot("zzzzzzzz", 0, 1, 1000000, ())), ("zzzzzzzz", 0, 1, 1000000, ()))

    def test_by_names_in_any_order(self):
        for order in itertools.permutations(NAMES):
            self.assertEqual(fields(Lot(**{name: FULL[NAMES.index(name)] for name in order})), FULL)
        self.assertEqual(fields(Lot("ab", shades=FULL[4], most=9, room=3, least=2)), FULL)

    def test_left_out(self):
        whole = dict(zip(NAMES, FULL))
        left = {"least": 1, "most": 1000000, "shades": ()}
        for many in range(4):
            for names in itertools.combinations(left, many):
                told = Lot(**{name: whole[name] for name in NAMES if name not in names})
                self.assertEqual(fields(told), tuple([left[name] if name in names else whole[name] for name in NAMES]))
        self.assertEqual(fields(Lot("ab", 3)), ("ab", 3, 1, 1000000, ()))
        self.assertEqual(fields(Lot("ab", 3, 2)), ("ab", 3, 2, 1000000, ()))
        self.assertEqual(fields(Lot("ab", 3, 2, 9)), ("ab", 3, 2, 9, ()))

    def test_shades_none(self):
        self.assertEqual(fields(Lot("ab", 3, 2, 9, None)), ("ab", 3, 2, 9, ()))
        self.assertEqual(fields(Lot("ab", 3, shades=None)), ("ab", 3, 1, 1000000, ()))
        self.assertEqual(Lot("ab", 3, shades=()).shades, ())

    def test_bounds(self):
        for name, values in [("name", ["a", "z", "abcdefgh"]), ("room", [0, 1, 19, 20]), ("least", [1, 2, 8, 9]),
                             ("most", [2, 3, 999999, 1000000]),
                             ("shades", [(), ("a",), ("b", "a"), tuple("abcdefghijklmnopqrstuvwxyz")])]:
            for value in values:
                lot = Lot(**told_with(name, value))
                self.assertEqual(fields(lot), tuple(told_with(name, value).values()))
        self.assertEqual(fields(Lot("ab", 3, 1000000)), ("ab", 3, 1000000, 1000000, ()))
        self.assertEqual(fields(Lot("ab", 3, most=1)), ("ab", 3, 1, 1, ()))

    def test_refused(self):
        for name in NAMES:
            for value in wrong(name):
                told = told_with(name, value)
                with self.assertRaises(BadLot, msg=f"{name}: {value!r}") as caught:
                    Lot(**told)
                self.assertIs(type(caught.exception), BadLot)
                self.assertIsInstance(caught.exception, PearlError)
                with self.assertRaises(BadLot, msg=f"{name}: {value!r}"):
                    Lot(*told.values())

    def test_refused_with_the_others_left_out(self):
        for least in [0, 1000001, GREAT] + no_wholes():
            with self.assertRaises(BadLot):
                Lot("ab", 3, least)
        for most in [0, 1000001, GREAT] + no_wholes():
            with self.assertRaises(BadLot):
                Lot("ab", 3, most=most)

    def test_least_above_most(self):
        for least, most in [(2, 1), (10, 9), (1000000, 999999), (1000001, 1000001), (1000001, 1000002)]:
            with self.assertRaises(BadLot):
                Lot("ab", 3, least, most)

    def test_all_wrong(self):
        for thing in others():
            with self.assertRaises(BadLot):
                Lot(thing, thing, thing, thing, thing)

    def test_the_methods_stand_in_the_class(self):
        for name in ("fits", "__len__", "__eq__", "__str__", "__repr__"):
            self.assertIn(name, vars(Lot))


class Compared(unittest.TestCase):
    def alike(self, one, other, wanted):
        for left, right in ((one, other), (other, one)):
            self.assertIs(left == right, wanted)
            self.assertIs(left != right, not wanted)

    def test_length(self):
        for room in range(21):
            self.assertEqual(len(Lot("ab", room)), room)
            self.assertEqual(len(Lot("ab", room, 5, 7, ("rose",))), room)

    def test_equal(self):
        self.alike(Lot(*FULL), Lot(*FULL), True)
        self.alike(Lot("ab", 0), Lot("ab", 0, 1, 1000000, ()), True)
        for shades in itertools.permutations(("rose", "white", "grey")):
            self.alike(Lot("ab", 3, shades=shades), Lot("ab", 3, shades=("rose", "white", "grey")), True)
        self.assertIn(Lot("ab", 3, 2, 9, ("white", "rose")), [None, Lot(*FULL)])

    def test_one_thing_unlike(self):
        for name, values in [("name", ["ac", "b", "abc"]), ("room", [2, 4, 0]), ("least", [1, 3]),
                             ("most", [8, 10, 1000000]),
                             ("shades", [None, (), ("rose",), ("white",), ("rose", "grey"), FULL[4] + ("grey",)])]:
            for value in values:
                self.alike(Lot(*FULL), Lot(**told_with(name, value)), False)

    def test_equals_nothing_else(self):
        for lot in (Lot(*FULL), Lot("ab", 0)):
            for thing in [fields(lot), list(fields(lot)), repr(lot), str(lot), lot.name, lot.room, len(lot), True,
                          False, Bead(1, 2, 3, "ab")] + others():
                self.assertIs(lot == thing, False)
                self.assertIs(lot != thing, True)
                self.assertIs(thing == lot, False)
                self.assertIs(thing != lot, True)

    def test_repr(self):
        for told, wanted in [(("ab", 3), "Lot('ab', 3)"), (("ab", 0, 1, 1000000, ()), "Lot('ab', 0)"),
                             (("ab", 3, 2), "Lot('ab', 3, least=2)"), (("ab", 3, 1, 9), "Lot('ab', 3, most=9)"),
                             (("ab", 3, 1, 1), "Lot('ab', 3, most=1)"),
                             (("ab", 3, 1000000), "Lot('ab', 3, least=1000000)"),
                             (("ab", 3, 2, 9), "Lot('ab', 3, least=2, most=9)"),
                             (("ab", 3, 2, 1000000, ("rose",)), "Lot('ab', 3, least=2, shades=('rose',))"),
                             (("ab", 3, 1, 9, ("rose",)), "Lot('ab', 3, most=9, shades=('rose',))"),
                             (("ab", 20, 1, 1000000, ("b", "a")), "Lot('ab', 20, shades=('b', 'a'))"),
                             (FULL, "Lot('ab', 3, least=2, most=9, shades=('rose', 'white'))")]:
            self.assertEqual(repr(Lot(*told)), wanted)
            self.assertEqual(repr([Lot(*told)]), f"[{wanted}]")

    def test_str(self):
        for told, wanted in [(("ab", 3), "ab 3 1 1000000 -"), (("ab", 0, 2), "ab 0 2 1000000 -"),
                             (("ab", 3, 2, 1000000, ("rose", "white")), "ab 3 2 1000000 rose,white"),
                             (("ab", 3, 1, 9, ("white", "rose")), "ab 3 1 9 white,rose"),
                             (("zz", 20, 7, 7, ("rose",)), "zz 20 7 7 rose"), (("ab", 3, 1, 9), "ab 3 1 9 -")]:
            self.assertEqual(str(Lot(*told)), wanted)
            self.assertEqual(f"{Lot(*told)}", wanted)


class Fits(unittest.TestCase):
    def test_across(self):
        lot = Lot("ab", 0, 5, 9)
        for across, wanted in [(4, False), (5, True), (6, True), (8, True), (9, True), (10, False), (1, False),
                               (1000000, False)]:
            self.assertIs(lot.fits(Bead(1, across, 7, "rose")), wanted)
            self.assertIs(lot.fits(bead=Bead(1, across, 1, "white", "oval", True)), wanted)
        self.assertIs(Lot("ab", 0, 5, 5).fits(Bead(1, 5, 99, "rose")), True)
        for across in (1, 7, 1000000):
            self.assertIs(Lot("ab", 3).fits(Bead(1, across, 1, "rose")), True)

    def test_shades(self):
        rose, white, grey = [Bead(1, 7, 7, shade) for shade in ("rose", "white", "grey")]
        for shades, wanted in [((), (True, True, True)), (None, (True, True, True)), (("rose",), (True, False, False)),
                               (("white", "rose"), (True, True, False)), (("ro", "ose"), (False, False, False)),
                               (("round",), (False, False, False))]:
            lot = Lot("ab", 3, 5, 9, shades)
            self.assertEqual((lot.fits(rose), lot.fits(white), lot.fits(grey)), wanted)
            for bead in (rose, white, grey):
                self.assertIs(type(lot.fits(bead)), bool)
            self.assertIs(lot.fits(Bead(1, 4, 7, "rose")), False)

    def test_nothing_changes(self):
        lot, bead = Lot(*FULL), Bead(1, 5, 7, "rose")
        row = bead.row()
        for turn in range(2):
            self.assertIs(lot.fits(bead), True)
            self.assertEqual(fields(lot), FULL)
            self.assertEqual(bead.row(), row)

    def test_things_that_cannot_be_keys(self):
        for name in NAMES:
            with self.assertRaises(BadLot):
                Lot(**told_with(name, Keyless()))


if __name__ == "__main__":
    unittest.main()
