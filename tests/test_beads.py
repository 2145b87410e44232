"""[2.1] to [2.5]: beads."""

import itertools
import unittest

from pearlrise.beads import Bead, bead_of, how_many, in_order, unlike
from pearlrise.errors import BadBead, PearlError
from tests.things import Keyless, no_names, no_truths, no_wholes, others

NAMES = ("number", "across", "weight", "shade", "form", "drilled")
FULL = (7, 12, 30, "rose", "oval", True)
# For each of the six, another one that it may be.
CHANGED = {"number": 8, "across": 13, "weight": 31, "shade": "white", "form": "round", "drilled": False}


def fields(bead):
    return tuple([getattr(bead, name) for name in NAMES])


def without_number():
    return [name for name in NAMES if name != "number"]


def changed(name, value):
    """The six of FULL, with one of them another."""
    told = dict(zip(NAMES, FULL))
    told[name] = value
    return told


def wrong(name):
    """What a bead can't be made of, at one of the six."""
    if name == "number":
        return no_wholes() + [0, -1, 1000000001, 10 ** 40, -10 ** 40]
    if name in ("across", "weight"):
        return no_wholes() + [0, -1, 1000001, 10 ** 40, -10 ** 40]
    if name == "drilled":
        return no_truths()
    return no_names()


class Made(unittest.TestCase):
    def test_by_places(self):
        self.assertEqual(fields(Bead(*FULL)), FULL)
        self.assertEqual(fields(Bead(1, 2, 3, "ab", "cd", False)), (1, 2, 3, "ab", "cd", False))

    def test_by_names_in_any_order(self):
        for order in itertools.permutations(NAMES):
            told = {name: FULL[NAMES.index(name)] for name in order}
            self.assertEqual(fields(Bead(**told)), FULL)
        self.assertEqual(fields(Bead(7, 12, drilled=True, shade="rose", form="oval", weight=30)), FULL)

    def test_left_out(self):
        self.assertEqual(fields(Bead(7, 12, 30, "rose")), (7, 12, 30, "rose", "round", False))
        self.assertEqual(fields(Bead(7, 12, 30, "rose", "oval")), (7, 12, 30, "rose", "oval", False))
        self.assertEqual(fields(Bead(7, 12, 30, "rose", drilled=True)), (7, 12, 30, "rose", "round", True))
        self.assertEqual(fields(Bead(shade="rose", weight=30, across=12, number=7)),
                         (7, 12, 30, "rose", "round", False))
        self.assertIs(Bead(7, 12, 30, "rose").drilled, False)
        self.assertIs(Bead(*FULL).drilled, True)

    def test_bounds(self):
        bounds = {"number": (1, 1000000000), "across": (1, 1000000), "weight": (1, 1000000),
                  "shade": ("a", "zzzzzzzz"), "form": ("z", "abcdefgh"), "drilled": (True, False)}
        for name, values in bounds.items():
            for value in values:
                bead = Bead(**changed(name, value))
                self.assertEqual(fields(bead), tuple(changed(name, value).values()))

    def test_refused(self):
        for name in NAMES:
            for value in wrong(name):
                told = changed(name, value)
                with self.assertRaises(BadBead, msg=f"{name}: {value!r}") as caught:
                    Bead(**told)
                self.assertIs(type(caught.exception), BadBead)
                with self.assertRaises(BadBead, msg=f"{name}: {value!r}"):
                    Bead(*told.values())

    def test_refused_where_several_are_wrong(self):
        for thing in others():
            with self.assertRaises(BadBead):
                Bead(thing, thing, thing, thing, thing, thing)
        with self.assertRaises(PearlError):
            Bead(0, 12, 30, "rose")

    def test_what_is_wrong_stays(self):
        thing = [1]
        with self.assertRaises(BadBead):
            Bead(thing, 12, 30, "rose")
        self.assertEqual(thing, [1])


class Compared(unittest.TestCase):
    def test_number_alone_tells_nothing(self):
        self.assertIs(Bead(*FULL) == Bead(**changed("number", 8)), True)
        self.assertIs(Bead(*FULL) != Bead(**changed("number", 8)), False)
        self.assertIs(Bead(*FULL) == Bead(*FULL), True)
        self.assertIs(Bead(1, 12, 30, "rose") == Bead(1000000000, 12, 30, "rose", "round", False), True)

    def test_one_thing_more(self):
        for name in without_number():
            other = Bead(**changed(name, CHANGED[name]))
            self.assertIs(Bead(*FULL) == other, False, name)
            self.assertIs(Bead(*FULL) != other, True, name)
            self.assertIs(other == Bead(*FULL), False, name)
            twice = changed(name, CHANGED[name])
            twice["number"] = 8
            self.assertIs(Bead(*FULL) == Bead(**twice), False, name)
            self.assertIs(Bead(*FULL) != Bead(**twice), True, name)

    def test_across_and_weight_are_not_taken_for_one_another(self):
        self.assertIs(Bead(7, 12, 30, "rose") == Bead(7, 30, 12, "rose"), False)
        self.assertIs(Bead(7, 12, 30, "ab", "cd") == Bead(7, 12, 30, "cd", "ab"), False)

    def test_equals_nothing_else(self):
        bead = Bead(*FULL)
        for thing in [FULL, list(FULL), bead.key(), 7, "7 12/30 rose oval drilled", repr(bead), True] + others():
            self.assertIs(bead == thing, False)
            self.assertIs(bead != thing, True)
            self.assertIs(thing == bead, False)
            self.assertIs(thing != bead, True)

    def test_in_count_and_index(self):
        beads = [Bead(1, 5, 6, "ab"), Bead(2, 5, 6, "ab", drilled=True), Bead(3, 5, 6, "ab"), Bead(4, 5, 7, "ab")]
        self.assertIn(Bead(9, 5, 6, "ab"), beads)
        self.assertIn(Bead(9, 5, 7, "ab"), beads)
        self.assertNotIn(Bead(4, 5, 8, "ab"), beads)
        self.assertNotIn(Bead(1, 6, 6, "ab"), beads)
        self.assertNotIn(Bead(1, 5, 6, "ac"), beads)
        self.assertNotIn(Bead(1, 5, 6, "ab", "oval"), beads)
        self.assertNotIn((1, 5, 6, "ab", "round", False), beads)
        self.assertEqual(beads.count(Bead(9, 5, 6, "ab")), 2)
        self.assertEqual(beads.count(Bead(9, 5, 6, "ab", drilled=True)), 1)
        self.assertEqual(beads.count(Bead(1, 9, 6, "ab")), 0)
        self.assertEqual(beads.index(Bead(3, 5, 6, "ab")), 0)
        self.assertEqual(beads.index(Bead(9, 5, 6, "ab", drilled=True)), 1)
        self.assertEqual(beads.index(Bead(9, 5, 7, "ab")), 3)
        with self.assertRaises(ValueError):
            beads.index(Bead(1, 9, 6, "ab"))
        self.assertNotIn(Bead(1, 5, 6, "ab"), [None, 1, "ab", (1, 5, 6, "ab", "round", False)])


class Rows(unittest.TestCase):
    def test_row_and_key(self):
        bead = Bead(*FULL)
        self.assertEqual(bead.row(), FULL)
        self.assertEqual(bead.key(), (12, 30, "rose", "oval", True, 7))
        self.assertIs(bead.row()[5], True)
        self.assertIs(bead.key()[4], True)
        self.assertEqual(Bead(7, 12, 30, "rose").row(), (7, 12, 30, "rose", "round", False))
        self.assertEqual(Bead(7, 12, 30, "rose").key(), (12, 30, "rose", "round", False, 7))
        self.assertIs(Bead(7, 12, 30, "rose").row()[5], False)

    def test_bead_of(self):
        for row in [FULL, (1, 2, 3, "a", "round", False), (1000000000, 1000000, 1000000, "abcdefgh", "z", True)]:
            self.assertIsInstance(bead_of(row), Bead)
            self.assertEqual(fields(bead_of(row)), row)
            self.assertEqual(bead_of(row=row).row(), row)

    def test_bead_of_no_tuple_of_six(self):
        rows = [list(FULL), FULL[:5], FULL[:4], FULL + (1,), FULL + ("ab",), (), (FULL,), (FULL,) * 6, Bead(*FULL),
                dict(zip(NAMES, FULL)), "abcdef", b"abcdef", 7, True, [FULL], {1, 2, 3, 4, 5, 6}]
        for row in rows + others():
            with self.assertRaises(BadBead, msg=repr(row)):
                bead_of(row)

    def test_bead_of_a_tuple_with_what_makes_none(self):
        for name in NAMES:
            for value in wrong(name):
                with self.assertRaises(BadBead, msg=f"{name}: {value!r}"):
                    bead_of(tuple(changed(name, value).values()))
        with self.assertRaises(BadBead):
            bead_of((12, 30, "rose", "oval", True, 7))
        with self.assertRaises(BadBead):
            bead_of((Keyless(),) * 6)

    def test_in_order(self):
        keys = [(1, 9, "zz", "zz", True, 9), (2, 1, "zz", "zz", True, 9), (2, 2, "ab", "zz", True, 9),
                (2, 2, "b", "aa", True, 9), (2, 2, "b", "ab", False, 9), (2, 2, "b", "ab", True, 1),
                (2, 2, "b", "ab", True, 2), (10, 1, "a", "a", False, 1)]
        beads = [Bead(key[5], key[0], key[1], key[2], key[3], key[4]) for key in keys]
        for step in (1, 3, 5, 7):
            for turn in range(8):
                mixed = [beads[(turn + step * at) % 8] for at in range(8)]
                told = in_order(mixed)
                self.assertEqual([bead.key() for bead in told], keys)
        for six in itertools.permutations(beads[2:7]):
            self.assertEqual([bead.key() for bead in in_order(list(six))], keys[2:7])

    def test_in_order_tells_another_list(self):
        one, two, three = Bead(1, 9, 1, "ab"), Bead(2, 5, 1, "ab"), Bead(3, 7, 1, "ab")
        beads = [one, two, three]
        told = in_order(beads=beads)
        self.assertEqual([bead.number for bead in told], [2, 3, 1])
        self.assertEqual([bead.number for bead in beads], [1, 2, 3])
        self.assertIs(type(told), list)
        told.append(one)
        told[0] = three
        self.assertEqual([bead.number for bead in beads], [1, 2, 3])
        self.assertEqual([bead.number for bead in in_order(beads)], [2, 3, 1])
        risen = [two, three, one]
        again = in_order(risen)
        self.assertIsNot(again, risen)
        again.clear()
        self.assertEqual([bead.number for bead in risen], [2, 3, 1])
        none = []
        self.assertEqual(in_order(none), [])
        self.assertIsNot(in_order(none), none)
        self.assertEqual([bead.number for bead in in_order([one])], [1])


class Shown(unittest.TestCase):
    def test_repr(self):
        for made, text in [((7, 12, 30, "rose"), "Bead(7, 12, 30, 'rose')"),
                           ((7, 12, 30, "rose", "oval"), "Bead(7, 12, 30, 'rose', form='oval')"),
                           ((7, 12, 30, "rose", "round", True), "Bead(7, 12, 30, 'rose', drilled=True)"),
                           (FULL, "Bead(7, 12, 30, 'rose', form='oval', drilled=True)"),
                           ((1, 1000000, 2, "round"), "Bead(1, 1000000, 2, 'round')")]:
            self.assertEqual(repr(Bead(*made)), text)
            self.assertEqual(repr([Bead(*made)]), f"[{text}]")
            self.assertEqual(eval(text).row(), Bead(*made).row())

    def test_str(self):
        for made, text in [((7, 12, 30, "rose"), "7 12/30 rose round"),
                           ((7, 12, 30, "rose", "oval"), "7 12/30 rose oval"),
                           ((7, 12, 30, "rose", "round", True), "7 12/30 rose round drilled"),
                           (FULL, "7 12/30 rose oval drilled"),
                           ((1000000000, 1, 1000000, "a"), "1000000000 1/1000000 a round")]:
            self.assertEqual(str(Bead(*made)), text)
            self.assertEqual(f"{Bead(*made)}", text)


class Counted(unittest.TestCase):
    def beads(self):
        return [Bead(5, 5, 6, "ab"), Bead(2, 4, 6, "ab"), Bead(1, 5, 6, "ab"), Bead(5, 5, 6, "ab", drilled=True),
                Bead(9, 4, 6, "ab"), Bead(4, 5, 6, "ab"), Bead(5, 5, 7, "ab"), Bead(6, 5, 6, "ab", "oval")]

    def test_unlike(self):
        beads = self.beads()
        told = unlike(beads)
        self.assertIs(type(told), list)
        self.assertEqual(len(told), 5)
        for at, bead in enumerate([beads[0], beads[1], beads[3], beads[6], beads[7]]):
            self.assertIs(told[at], bead)
        self.assertEqual([bead.row() for bead in unlike(beads=beads)], [bead.row() for bead in told])

    def test_unlike_tells_another_list(self):
        beads = self.beads()
        rows = [bead.row() for bead in beads]
        unlike(beads).clear()
        self.assertEqual([bead.row() for bead in beads], rows)
        few = [beads[0], beads[1]]
        told = unlike(few)
        self.assertEqual([bead.number for bead in told], [5, 2])
        self.assertIsNot(told, few)
        none = []
        self.assertEqual(unlike(none), [])
        self.assertIsNot(unlike(none), none)

    def test_how_many(self):
        beads = self.beads()
        rows = [bead.row() for bead in beads]
        self.assertEqual(how_many(beads, beads[0]), 3)
        self.assertEqual(how_many(beads, beads[5]), 3)
        self.assertEqual(how_many(beads, Bead(77, 5, 6, "ab")), 3)
        self.assertEqual(how_many(beads, Bead(77, 4, 6, "ab")), 2)
        self.assertEqual(how_many(beads, Bead(77, 5, 6, "ab", drilled=True)), 1)
        self.assertEqual(how_many(beads, Bead(5, 6, 6, "ab")), 0)
        self.assertEqual(how_many([], Bead(5, 5, 6, "ab")), 0)
        self.assertEqual(how_many(bead=Bead(77, 5, 6, "ab"), beads=beads), 3)
        self.assertEqual([bead.row() for bead in beads], rows)


if __name__ == "__main__":
    unittest.main()
