"""[1.1] and [1.2]: whole numbers, names, beads' numbers, words of figures."""

import unittest

from pearlrise.words import is_name, is_number, is_whole, whole_in
from tests.things import no_names, no_wholes, others

NO_FIGURES = [" ", "\n", "\t", "+", "-", "_", ".", ",", "a", "/", ":", "x", "e",
              "\u0663", "\u00b2", "\uff11", "\u0966", "\u2460", "\u00bd", "\u00a0"]


class IsWhole(unittest.TestCase):
    def test_bounds_are_in(self):
        for least, most in [(1, 9), (0, 0), (-5, 5), (-9, -2), (10 ** 80, 10 ** 81)]:
            self.assertIs(is_whole(least, least, most), True)
            self.assertIs(is_whole(most, least, most), True)
            self.assertIs(is_whole((least + most) // 2, least, most), True)

    def test_one_beyond_each_bound(self):
        for least, most in [(1, 9), (0, 0), (-5, 5), (-9, -2), (10 ** 80, 10 ** 81)]:
            self.assertIs(is_whole(least - 1, least, most), False)
            self.assertIs(is_whole(most + 1, least, most), False)

    def test_truths_are_none(self):
        for least, most in [(0, 1), (-10, 10), (1, 1), (0, 0)]:
            self.assertIs(is_whole(True, least, most), False)
            self.assertIs(is_whole(False, least, most), False)

    def test_things_of_other_kinds(self):
        for thing in no_wholes():
            self.assertIs(is_whole(thing, -1000, 1000), False, repr(thing))

    def test_by_names(self):
        self.assertIs(is_whole(most=9, thing=5, least=1), True)
        self.assertIs(is_whole(5, most=4, least=1), False)
        self.assertIs(is_whole(least=6, most=9, thing=5), False)


class IsName(unittest.TestCase):
    def test_names(self):
        for name in ["a", "z", "ab", "rose", "round", "abcdefgh", "zzzzzzzz", "azazazaz"]:
            self.assertIs(is_name(name), True, name)
        for letter in "abcdefghijklmnopqrstuvwxyz":
            self.assertIs(is_name(letter), True, letter)

    def test_lengths(self):
        for length in range(12):
            self.assertIs(is_name("k" * length), 1 <= length <= 8, length)

    def test_another_sign_at_any_place(self):
        signs = ["A", "Z", "M", "0", "9", " ", "\n", "\t", "-", "_", "`", "{", ".", "\u00e9", "\u00df", "\u0430"]
        for sign in signs:
            self.assertIs(is_name(sign), False, repr(sign))
            for length in (2, 5, 8):
                for at in range(length):
                    text = "q" * at + sign + "q" * (length - 1 - at)
                    self.assertIs(is_name(text), False, repr(text))

    def test_things_of_other_kinds(self):
        for thing in no_names():
            self.assertIs(is_name(thing), False, repr(thing))

    def test_by_name(self):
        self.assertIs(is_name(thing="rose"), True)
        self.assertIs(is_name(thing="Rose"), False)


class IsNumber(unittest.TestCase):
    def test_numbers(self):
        for number in [1, 2, 7, 999999999, 1000000000]:
            self.assertIs(is_number(number), True, number)

    def test_beyond_the_bounds(self):
        for number in [0, -1, -7, 1000000001, 10 ** 40, -10 ** 40]:
            self.assertIs(is_number(number), False, number)

    def test_things_of_other_kinds(self):
        for thing in no_wholes() + others():
            self.assertIs(is_number(thing), False, repr(thing))

    def test_by_name(self):
        self.assertIs(is_number(thing=7), True)
        self.assertIs(is_number(thing=0), False)


class WholeIn(unittest.TestCase):
    def number(self, word, most):
        told = whole_in(word, most)
        self.assertIs(type(told), int, repr(word))
        return told

    def test_numbers(self):
        for number in list(range(120)) + [999, 1000, 123456789, 9876543210]:
            self.assertEqual(self.number(str(number), 12), number)

    def test_nought(self):
        self.assertEqual(self.number("0", 1), 0)
        self.assertEqual(self.number("0", 300), 0)

    def test_as_many_figures_as_may_be(self):
        for most in [1, 2, 5, 12, 80, 299, 300]:
            self.assertEqual(self.number("9" * most, most), 10 ** most - 1)
            self.assertEqual(self.number("1" + "0" * (most - 1), most), 10 ** (most - 1))
            self.assertIsNone(whole_in("9" * (most + 1), most))
            self.assertIsNone(whole_in("1" + "0" * most, most))
        self.assertIsNone(whole_in("1" * 6000, 300))

    def test_nought_ahead_of_others(self):
        for word in ["00", "01", "000", "007", "010", "0" * 12, "0" + "1" * 11]:
            self.assertIsNone(whole_in(word, 12), word)

    def test_text_without_signs(self):
        self.assertIsNone(whole_in("", 1))
        self.assertIsNone(whole_in("", 300))

    def test_another_sign_at_any_place(self):
        for sign in NO_FIGURES:
            self.assertIsNone(whole_in(sign, 12), repr(sign))
            for length in (2, 3, 6):
                for at in range(length):
                    word = "7" * at + sign + "7" * (length - 1 - at)
                    self.assertIsNone(whole_in(word, 12), repr(word))

    def test_by_names(self):
        self.assertEqual(whole_in(most=3, word="123"), 123)
        self.assertIsNone(whole_in("123", most=2))


if __name__ == "__main__":
    unittest.main()
