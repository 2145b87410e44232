"""[1.3], [1.4], [1.5]: shares."""

import unittest
from fractions import Fraction
from math import gcd

from pearlrise.errors import NoShare
from pearlrise.shares import Share, shares_sum

GREAT = 10 ** 79 + 7
GREATEST = 10 ** 80 - 1
SMALL = [(num, over) for num in range(-7, 8) for over in list(range(-6, 0)) + list(range(1, 7))]


def fields(share):
    return (share.num, share.over)


def lowest(num, over):
    both = Fraction(num, over)
    return (both.numerator, both.denominator)


class Made(unittest.TestCase):
    def test_lowest_terms(self):
        for num, over in SMALL:
            self.assertEqual(fields(Share(num, over)), lowest(num, over), (num, over))

    def test_minus_stands_at_num(self):
        self.assertEqual(fields(Share(3, -4)), (-3, 4))
        self.assertEqual(fields(Share(-3, -4)), (3, 4))
        self.assertEqual(fields(Share(-3, 4)), (-3, 4))
        self.assertEqual(fields(Share(6, -4)), (-3, 2))
        self.assertEqual(fields(Share(-5, -5)), (1, 1))

    def test_nought_is_over_one(self):
        for over in [1, -1, 2, -2, 10, 100, -100, GREATEST]:
            self.assertEqual(fields(Share(0, over)), (0, 1))
        self.assertEqual(fields(Share(0)), (0, 1))

    def test_over_left_out(self):
        for num in [0, 1, -1, 7, -12, GREATEST, -GREATEST]:
            self.assertEqual(fields(Share(num)), (num, 1))
            self.assertEqual(fields(Share(num=num)), (num, 1))

    def test_eighty_figures(self):
        pairs = [(GREATEST, GREAT), (-GREATEST, GREAT), (GREAT, -GREATEST), (-GREAT, -GREATEST), (GREATEST, -GREATEST),
                 (GREAT, 1), (1, GREAT), (1, -GREAT), (6 * 10 ** 78, 4 * 10 ** 78), (10 ** 79, 5 ** 79),
                 (GREATEST, 3), (3, GREATEST), (2 ** 260, -(6 ** 100))]
        for num, over in pairs:
            share = Share(num, over)
            self.assertEqual(fields(share), lowest(num, over))
            self.assertEqual(gcd(share.num, share.over), 1)
            self.assertGreater(share.over, 0)

    def test_by_names(self):
        self.assertEqual(fields(Share(num=6, over=8)), (3, 4))
        self.assertEqual(fields(Share(over=8, num=6)), (3, 4))
        self.assertEqual(fields(Share(6, over=-8)), (-3, 4))

    def test_over_nought(self):
        for num in [0, 1, -1, 12, -12, GREATEST, -GREATEST]:
            for make in (lambda: Share(num, 0), lambda: Share(over=0, num=num), lambda: Share(num, over=0)):
                with self.assertRaises(NoShare) as caught:
                    make()
                self.assertEqual(caught.exception.num, num)


class Compared(unittest.TestCase):
    def test_equal_where_both_fields_are(self):
        for one in SMALL:
            for other in SMALL:
                alike = lowest(*one) == lowest(*other)
                self.assertIs(Share(*one) == Share(*other), alike, (one, other))
                self.assertIs(Share(*one) != Share(*other), not alike, (one, other))

    def test_one_field_alone_is_not_enough(self):
        self.assertFalse(Share(1, 2) == Share(1, 3))
        self.assertFalse(Share(1, 3) == Share(2, 3))
        self.assertTrue(Share(1, 2) != Share(1, 3))
        self.assertTrue(Share(1, 3) != Share(2, 3))
        self.assertFalse(Share(1, 2) == Share(-1, 2))
        self.assertFalse(Share(GREATEST) == Share(GREATEST - 1))

    def test_equals_nothing_else(self):
        for thing in [2, 0, 1, True, "2", "Share(2, 1)", (2, 1), [2, 1], None, 2.0, Fraction(2), b"2", {}, object()]:
            for share in (Share(2), Share(0), Share(1)):
                self.assertIs(share == thing, False)
                self.assertIs(share != thing, True)
                self.assertIs(thing == share, False)
                self.assertIs(thing != share, True)

    def test_in_a_list(self):
        shares = [Share(1, 2), 3, "2", (2, 1), Share(-4, 6)]
        self.assertIn(Share(2, 4), shares)
        self.assertIn(Share(2, -3), shares)
        self.assertNotIn(Share(2), shares)
        self.assertNotIn(Share(3), shares)
        self.assertNotIn(Share(1, 3), shares)
        self.assertNotIn(2, [Share(2)])
        self.assertNotIn((2, 1), [Share(2)])
        self.assertNotIn("2", [Share(2)])


class Shown(unittest.TestCase):
    def test_repr(self):
        for made, text in [((3, 4), "Share(3, 4)"), ((-2,), "Share(-2, 1)"), ((0, 5), "Share(0, 1)"),
                           ((6, -8), "Share(-3, 4)"), ((7,), "Share(7, 1)"), ((1, 10), "Share(1, 10)")]:
            self.assertEqual(repr(Share(*made)), text)
            self.assertEqual(f"{[Share(*made)]}", f"[{text}]")

    def test_str(self):
        for made, text in [((3, 4), "3/4"), ((-2,), "-2"), ((0, 5), "0"), ((6, -8), "-3/4"), ((7,), "7"),
                           ((1, 10), "1/10"), ((10, 1), "10"), ((-1, 2), "-1/2")]:
            self.assertEqual(str(Share(*made)), text)
            self.assertEqual(f"{Share(*made)}", text)

    def test_great_ones(self):
        for num in (GREATEST, -GREATEST, 10 ** 79, -10 ** 60, 10 ** 60 - 1, 10 ** 60 + 1):
            self.assertEqual(str(Share(num)), str(num))
            self.assertEqual(repr(Share(num)), f"Share({num}, 1)")
        self.assertEqual(str(Share(-1, GREATEST)), f"-1/{GREATEST}")
        self.assertEqual(repr(Share(1, GREATEST)), f"Share(1, {GREATEST})")

    def test_what_comes_of_reckoning_may_be_greater_than_python_shows(self):
        great = Share(1)
        for turn in range(60):
            great = great.times(Share(-(10 ** 79)))
        great = great.minus(Share(1, 2))
        text = "1" + "9" * 4740
        self.assertEqual(str(Share(1).minus(great.plus(Share(1, 2)))), "-" + "9" * 4740)
        self.assertEqual(str(great), text + "/2")
        self.assertEqual(repr(great), f"Share({text}, 2)")

    def test_repr_makes_it_again(self):
        for num, over in SMALL:
            share = Share(num, over)
            self.assertEqual(eval(repr(share)), share)


class Reckoned(unittest.TestCase):
    def check(self, told, wanted):
        self.assertIsInstance(told, Share)
        self.assertEqual(fields(told), (wanted.numerator, wanted.denominator))

    def test_plus_minus_times_below(self):
        values = SMALL + [(GREATEST, GREAT), (-GREAT, GREATEST), (GREATEST, 1), (1, GREAT)]
        for one in values:
            for other in values:
                self.check(Share(*one).plus(Share(*other)), Fraction(*one) + Fraction(*other))
                self.check(Share(*one).minus(Share(*other)), Fraction(*one) - Fraction(*other))
                self.check(Share(*one).times(Share(*other)), Fraction(*one) * Fraction(*other))
                self.assertIs(Share(*one).is_below(Share(*other)), Fraction(*one) < Fraction(*other))

    def test_below_is_not_as_much(self):
        self.assertIs(Share(1, 2).is_below(Share(2, 4)), False)
        self.assertIs(Share(1, 3).is_below(Share(1, 2)), True)
        self.assertIs(Share(1, 2).is_below(Share(1, 3)), False)
        self.assertIs(Share(-1, 2).is_below(Share(-1, 3)), True)

    def test_by_names(self):
        self.assertEqual(Share(1, 2).plus(other=Share(1, 3)), Share(5, 6))
        self.assertEqual(Share(1, 2).minus(other=Share(1, 3)), Share(1, 6))
        self.assertEqual(Share(1, 2).times(other=Share(1, 3)), Share(1, 6))
        self.assertIs(Share(1, 2).is_below(other=Share(1, 3)), False)
        self.assertEqual(shares_sum(shares=[Share(1, 2), Share(1, 3)]), Share(5, 6))

    def test_each_time_a_new_share(self):
        one, nought = Share(1), Share(0)
        for told in (one.plus(nought), one.minus(nought), one.times(one)):
            self.assertEqual(told, one)
            self.assertIsNot(told, one)
        told = nought.plus(one)
        self.assertEqual(told, one)
        self.assertIsNot(told, one)

    def test_those_handed_in_stay(self):
        one, other = Share(3, 4), Share(-5, 6)
        for do in (one.plus, one.minus, one.times, one.is_below):
            do(other)
            self.assertEqual(fields(one), (3, 4))
            self.assertEqual(fields(other), (-5, 6))
        one.plus(one)
        one.times(one)
        self.assertEqual(fields(one), (3, 4))

    def test_sum(self):
        self.check(shares_sum([]), Fraction(0))
        self.check(shares_sum([Share(-3, 4)]), Fraction(-3, 4))
        self.check(shares_sum([Share(1, 2), Share(1, 3), Share(1, 6)]), Fraction(1))
        self.check(shares_sum([Share(1, 2), Share(1, 2), Share(-1)]), Fraction(0))
        self.check(shares_sum([Share(1, over) for over in range(1, 41)]),
                   sum([Fraction(1, over) for over in range(1, 41)], Fraction(0)))
        self.check(shares_sum([Share(GREATEST, GREAT), Share(GREAT, GREATEST)]),
                   Fraction(GREATEST, GREAT) + Fraction(GREAT, GREATEST))

    def test_sum_changes_nothing(self):
        shares = [Share(1, 2), Share(2, 3), Share(5)]
        kept = list(shares)
        told = shares_sum(shares)
        self.assertEqual(told, Share(37, 6))
        self.assertEqual(len(shares), 3)
        for at, share in enumerate(kept):
            self.assertIs(shares[at], share)
        self.assertEqual([fields(share) for share in shares], [(1, 2), (2, 3), (5, 1)])
        self.assertEqual(shares_sum(shares), told)
        none = []
        shares_sum(none)
        self.assertEqual(none, [])


if __name__ == "__main__":
    unittest.main()
