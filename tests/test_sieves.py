"""[2.6]: holes and sieves."""

import unittest

from pearlrise.beads import Bead
from pearlrise.errors import BadRule
from pearlrise.sieves import sieve_of, sifted
from tests.things import no_wholes, others

FORTY = [25000 * at for at in range(1, 41)]


def bead(across, number=1):
    return Bead(number, across, 5, "rose")


def wrong_holes():
    """What are no holes."""
    told = [list(range(1, 42)), FORTY[:39] + [999999, 1000000], list(range(1, 200)), [5, 5], [1, 1], [3, 7, 7],
            [3, 3, 7], [7, 3], [1, 9, 5, 12], [1, 2, 3, 2], [9, 12, 5], [0], [-1], [0, 5], [-3, 5], [1000001],
            [5, 1000001], [3, 10 ** 40], (), (3, 7), "", "37", b"\x03\x07", {3: True}, {3, 7}, range(3, 7), 3, 0,
            True, False, [[3], [7]], [(3, 7)], [3, [7]]]
    for thing in no_wholes():
        told.extend([[thing], [3, thing], [thing, 7], [3, thing, 7]])
    return told + [thing for thing in others() if not isinstance(thing, list)]


class Sieves(unittest.TestCase):
    def test_sieve_of(self):
        for across, sieve in [(1, 0), (2, 0), (3, 0), (4, 1), (6, 1), (7, 1), (8, 2), (11, 2), (12, 2), (13, 3),
                              (1000000, 3)]:
            self.assertEqual(sieve_of(bead(across), [3, 7, 12]), sieve)

    def test_a_bead_as_far_across_as_a_hole(self):
        for hole in [2, 3, 500, 999999]:
            self.assertEqual(sieve_of(bead(hole - 1), [hole]), 0)
            self.assertEqual(sieve_of(bead(hole), [hole]), 0)
            self.assertEqual(sieve_of(bead(hole + 1), [hole]), 1)

    def test_holes_at_their_bounds(self):
        self.assertEqual(sieve_of(bead(1), [1, 1000000]), 0)
        self.assertEqual(sieve_of(bead(2), [1, 1000000]), 1)
        self.assertEqual(sieve_of(bead(1000000), [1, 1000000]), 1)
        self.assertEqual(sieve_of(bead(5), [1, 2, 3, 4, 5, 6]), 4)

    def test_no_holes_and_forty(self):
        self.assertEqual(sieve_of(bead(1), []), 0)
        self.assertEqual(sieve_of(bead(1000000), []), 0)
        self.assertEqual(sieve_of(bead(1), FORTY), 0)
        self.assertEqual(sieve_of(bead(1000000), FORTY), 39)
        self.assertEqual(sieve_of(bead(500001), FORTY), 20)
        self.assertEqual(sieve_of(bead(41), list(range(1, 41))), 40)

    def test_sifted(self):
        beads = [bead(13, 1), bead(3, 2), bead(4, 3), bead(1, 4), bead(12, 5), bead(7, 6), bead(99, 7), bead(4, 8)]
        told = sifted(beads, [3, 7, 12])
        self.assertIs(type(told), list)
        self.assertEqual([[each.number for each in some] for some in told], [[2, 4], [3, 6, 8], [5], [1, 7]])
        for some in told:
            self.assertIs(type(some), list)
        self.assertIs(told[2][0], beads[4])

    def test_sifted_has_one_more_lists_than_holes(self):
        self.assertEqual(sifted([], []), [[]])
        self.assertEqual(sifted([], [5]), [[], []])
        self.assertEqual(sifted([], FORTY), [[]] * 41)
        self.assertEqual(sifted([bead(6)], [2, 5, 9]), [[], [], [bead(6)], []])
        told = sifted([bead(9, 1), bead(1, 2), bead(5, 3)], [])
        self.assertEqual([[each.number for each in some] for some in told], [[1, 2, 3]])
        beads = [bead(at, at) for at in range(1, 42)]
        self.assertEqual([[each.number for each in some] for some in sifted(beads, list(range(1, 41)))],
                         [[at] for at in range(1, 42)])

    def test_by_names(self):
        self.assertEqual(sieve_of(holes=[3, 7], bead=bead(5)), 1)
        self.assertEqual(sifted(holes=[3], beads=[bead(5)]), [[], [bead(5)]])

    def test_all_lists_are_new(self):
        beads, holes = [bead(5, 1), bead(2, 2)], [3, 7]
        told = sifted(beads, holes)
        told[0].append(bead(9))
        told[1].clear()
        self.assertEqual(told[2], [])
        told.clear()
        self.assertEqual([each.number for each in beads], [1, 2])
        self.assertEqual(holes, [3, 7])
        self.assertEqual([[each.number for each in some] for some in sifted(beads, holes)], [[2], [1], []])
        few = [bead(5, 1)]
        alone = sifted(few, [])
        alone[0].append(bead(9))
        self.assertEqual(len(few), 1)
        self.assertEqual(sifted([], [5, 6]), [[], [], []])
        empty = sifted([], [5, 6])
        empty[0].append(1)
        self.assertEqual(empty, [[1], [], []])

    def test_refused_by_both(self):
        for holes in wrong_holes():
            with self.assertRaises(BadRule, msg=repr(holes)) as caught:
                sieve_of(bead(5), holes)
            self.assertIs(type(caught.exception), BadRule)
            with self.assertRaises(BadRule, msg=repr(holes)):
                sifted([bead(5), bead(500000)], holes)
            with self.assertRaises(BadRule, msg=repr(holes)):
                sifted([], holes)

    def test_refused_whatever_the_bead_is_across(self):
        for across in (1, 2, 6, 1000000):
            for holes in ([7, 3], [3, 3], [1, "ab"], [900000, True]):
                with self.assertRaises(BadRule):
                    sieve_of(bead(across), holes)


if __name__ == "__main__":
    unittest.main()
