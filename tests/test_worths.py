"""[3.1]: worths."""

import unittest

from pearlrise.beads import Bead
from pearlrise.errors import NoShare, NoSuch
from pearlrise.shares import Share
from pearlrise.worths import worth, worth_of

RATES = {("rose", "round"): 3, ("rose", "oval"): 5, ("white", "round"): 0, ("oval", "rose"): 1000}
PLAIN = Bead(1, 12, 4, "rose")
DRILLED = Bead(2, 12, 7, "rose", drilled=True)
OVAL = Bead(3, 12, 10, "rose", "oval")
WHITE = Bead(4, 12, 10, "white", drilled=True)
LACKS = Bead(5, 12, 10, "white", "oval")
LACKS_TOO = Bead(6, 12, 10, "grey", drilled=True)


class Worths(unittest.TestCase):
    def no_rate(self, pair, ask):
        with self.assertRaises(NoSuch) as caught:
            ask()
        self.assertEqual(caught.exception.kind, "rate")
        self.assertEqual(caught.exception.name, pair)
        self.assertIs(type(caught.exception.name), tuple)

    def no_share(self, num, ask):
        with self.assertRaises(NoShare) as caught:
            ask()
        self.assertEqual(caught.exception.num, num)

    def test_left_out(self):
        self.assertEqual(worth(PLAIN, RATES), Share(48))
        self.assertEqual(worth(DRILLED, RATES), Share(147, 2))
        self.assertEqual(worth(OVAL, RATES), Share(500))
        self.assertEqual(worth(WHITE, RATES), Share(0))
        self.assertIsInstance(worth(PLAIN, RATES), Share)

    def test_base_and_drilled(self):
        self.assertEqual(worth(PLAIN, RATES, 5), Share(48, 5))
        self.assertEqual(worth(PLAIN, RATES, 5, 7), Share(48, 5))
        self.assertEqual(worth(DRILLED, RATES, 5), Share(147, 10))
        self.assertEqual(worth(DRILLED, RATES, 5, 7), Share(21, 5))
        self.assertEqual(worth(DRILLED, RATES, 10, 1), Share(147, 10))
        self.assertEqual(worth(OVAL, RATES, 1000, 3), Share(1, 2))
        self.assertEqual(worth(PLAIN, RATES, -5, 7), Share(-48, 5))
        self.assertEqual(worth(DRILLED, RATES, -5, -11), Share(147, 55))

    def test_by_names(self):
        self.assertEqual(worth(DRILLED, RATES, base=5), Share(147, 10))
        self.assertEqual(worth(DRILLED, RATES, drilled=5), Share(147, 5))
        self.assertEqual(worth(drilled=4, base=5, rates=RATES, bead=DRILLED), Share(147, 20))
        self.assertEqual(worth_of(drilled=4, base=5, rates=RATES, beads=[DRILLED, PLAIN]), Share(339, 20))
        self.assertEqual(worth_of([DRILLED, PLAIN], RATES, drilled=4), Share(339, 4))
        self.assertEqual(worth_of([DRILLED, PLAIN], RATES, base=3), Share(81, 2))

    def test_the_square_of_the_weight_alone(self):
        self.assertEqual(worth(Bead(9, 1000000, 1, "rose"), RATES), Share(3))
        self.assertEqual(worth(Bead(9, 1, 1000000, "rose"), RATES), Share(3 * 10 ** 12))
        self.assertEqual(worth(Bead(1000000000, 1, 2, "rose"), RATES), Share(12))

    def test_great_rates(self):
        rates = {("rose", "round"): 10 ** 40}
        self.assertEqual(worth(PLAIN, rates, 10 ** 41), Share(8, 5))

    def test_a_rate_that_lacks(self):
        self.no_rate(("white", "oval"), lambda: worth(LACKS, RATES))
        self.no_rate(("grey", "round"), lambda: worth(LACKS_TOO, RATES))
        self.no_rate(("rose", "round"), lambda: worth(PLAIN, {}))
        self.no_rate(("rose", "round"), lambda: worth(PLAIN, {("round", "rose"): 3}))
        self.no_rate(("rose", "round"), lambda: worth(PLAIN, {("rose", "oval"): 3, ("white", "round"): 3}))

    def test_a_rate_that_lacks_ahead_of_over_nought(self):
        self.no_rate(("white", "oval"), lambda: worth(LACKS, RATES, 0))
        self.no_rate(("white", "oval"), lambda: worth(LACKS, RATES, base=0, drilled=0))
        self.no_rate(("grey", "round"), lambda: worth(LACKS_TOO, RATES, 1, 0))

    def test_over_nought(self):
        self.no_share(48, lambda: worth(PLAIN, RATES, 0))
        self.no_share(48, lambda: worth(PLAIN, RATES, base=0, drilled=5))
        self.no_share(147, lambda: worth(DRILLED, RATES, 0))
        self.no_share(147, lambda: worth(DRILLED, RATES, 1, 0))
        self.no_share(147, lambda: worth(DRILLED, RATES, drilled=0))
        self.no_share(147, lambda: worth(DRILLED, RATES, 0, 0))
        self.no_share(0, lambda: worth(WHITE, RATES, 0))
        self.no_share(0, lambda: worth(WHITE, RATES, 3, 0))

    def test_drilled_nought_of_a_bead_that_is_not(self):
        self.assertEqual(worth(PLAIN, RATES, 1, 0), Share(48))
        self.assertEqual(worth_of([PLAIN, OVAL], RATES, drilled=0), Share(548))

    def test_together(self):
        self.assertEqual(worth_of([PLAIN], RATES), Share(48))
        self.assertEqual(worth_of([PLAIN, DRILLED, OVAL, WHITE], RATES), Share(1243, 2))
        self.assertEqual(worth_of([DRILLED, DRILLED], RATES), Share(147))
        self.assertEqual(worth_of([PLAIN, DRILLED, OVAL], RATES, 5, 7), Share(569, 5))
        self.assertIsInstance(worth_of([PLAIN], RATES), Share)

    def test_of_none(self):
        for told in (worth_of([], RATES), worth_of([], {}), worth_of([], RATES, 0, 0), worth_of([], {}, base=0)):
            self.assertIsInstance(told, Share)
            self.assertEqual(told, Share(0))

    def test_refused_as_the_first_that_is(self):
        self.no_rate(("white", "oval"), lambda: worth_of([PLAIN, LACKS, LACKS_TOO], RATES))
        self.no_rate(("grey", "round"), lambda: worth_of([PLAIN, LACKS_TOO, LACKS], RATES))
        self.no_share(147, lambda: worth_of([PLAIN, DRILLED, LACKS], RATES, 1, 0))
        self.no_rate(("white", "oval"), lambda: worth_of([PLAIN, LACKS, DRILLED], RATES, 1, 0))
        self.no_share(48, lambda: worth_of([PLAIN, DRILLED, LACKS], RATES, 0))
        self.no_share(500, lambda: worth_of([OVAL, PLAIN], RATES, base=0))
        self.no_rate(("grey", "round"), lambda: worth_of([LACKS_TOO, PLAIN], RATES, base=0))

    def test_rates_and_beads_stay(self):
        rates, beads = dict(RATES), [PLAIN, DRILLED, LACKS]
        rows = [bead.row() for bead in beads]
        worth(PLAIN, rates)
        worth_of(beads[:2], rates, 5, 7)
        self.no_rate(("white", "oval"), lambda: worth_of(beads, rates))
        self.no_share(48, lambda: worth_of(beads, rates, 0))
        self.assertEqual(rates, RATES)
        self.assertEqual(list(rates), list(RATES))
        self.assertEqual([bead.row() for bead in beads], rows)
        self.assertEqual(worth(PLAIN, rates), Share(48))


if __name__ == "__main__":
    unittest.main()
