"""Lengths: point 3."""

import itertools
import re
import unittest
from fractions import Fraction

from partsmith.errors import NoLength
from partsmith.lengths import added, length_text, less, made_length, read_length, shorter

FORM = re.compile(r"(0|[1-9][0-9]{0,3})(/[1-9][0-9]{0,3})?")
# Some of these share a divisor, some do not.
HUGE = (3 ** 700, 2 ** 900 * 3 ** 100, 10 ** 400 + 7)


def pair(fraction):
    return (fraction.numerator, fraction.denominator)


def small_lengths():
    return sorted({pair(Fraction(top, bottom)) for top in range(9) for bottom in range(1, 9)})


def huge_lengths():
    return [pair(Fraction(top, bottom)) for top in HUGE + (0, 1) for bottom in HUGE + (1,)]


class Made(unittest.TestCase):
    def test_lowest_terms(self):
        self.assertEqual(made_length(6, 16), (3, 8))
        self.assertEqual(made_length(4, 2), (2, 1))
        self.assertEqual(made_length(3, 8), (3, 8))
        self.assertEqual(made_length(1, 1), (1, 1))

    def test_zero_is_0_by_1(self):
        for bottom in (1, 2, 7, 32, 10 ** 300):
            self.assertEqual(made_length(0, bottom), (0, 1))

    def test_small_numbers(self):
        for top in range(60):
            for bottom in range(1, 60):
                self.assertEqual(made_length(top, bottom), pair(Fraction(top, bottom)))

    def test_numbers_of_hundreds_of_figures(self):
        for top in HUGE + (0, 1, 6):
            for bottom in HUGE + (1, 6):
                self.assertEqual(made_length(top, bottom), pair(Fraction(top, bottom)))
        self.assertEqual(made_length(3 * 10 ** 500, 8 * 10 ** 500), (3, 8))

    def test_a_length_is_a_tuple_of_whole_numbers(self):
        for length in (made_length(6, 16), added((1, 2), (1, 2)), less((1, 2), (1, 2)), read_length("6/16")):
            self.assertIs(type(length), tuple)
            self.assertEqual([type(part) for part in length], [int, int])


class Reckoned(unittest.TestCase):
    def check_pairs(self, lengths):
        for one in lengths:
            for other in lengths:
                left = Fraction(one[0], one[1])
                right = Fraction(other[0], other[1])
                self.assertEqual(added(one, other), pair(left + right))
                self.assertIs(shorter(one, other), left < right)
                if right <= left:
                    self.assertEqual(less(one, other), pair(left - right))

    def test_small_lengths(self):
        self.check_pairs(small_lengths())

    def test_lengths_of_hundreds_of_figures(self):
        self.check_pairs(huge_lengths())

    def test_sums(self):
        self.assertEqual(added((1, 8), (1, 8)), (1, 4))
        self.assertEqual(added((1, 3), (1, 6)), (1, 2))
        self.assertEqual(added((3, 4), (1, 4)), (1, 1))
        self.assertEqual(added((0, 1), (0, 1)), (0, 1))

    def test_differences(self):
        self.assertEqual(less((1, 2), (1, 6)), (1, 3))
        self.assertEqual(less((3, 8), (0, 1)), (3, 8))
        self.assertEqual(less((3, 8), (3, 8)), (0, 1))

    def test_shorter_both_ways_and_with_itself(self):
        self.assertIs(shorter((1, 3), (1, 2)), True)
        self.assertIs(shorter((1, 2), (1, 3)), False)
        self.assertIs(shorter((1, 2), (1, 2)), False)
        self.assertIs(shorter((0, 1), (0, 1)), False)
        self.assertIs(shorter((0, 1), (1, 9999)), True)

    def test_shorter_is_exact_where_numbers_are_huge(self):
        big = 10 ** 400
        self.assertIs(shorter((big, big + 1), (big + 1, big + 2)), True)
        self.assertIs(shorter((big + 1, big + 2), (big, big + 1)), False)
        self.assertIs(shorter((big, big + 1), (big, big + 1)), False)


class Written(unittest.TestCase):
    def test_texts(self):
        self.assertEqual(length_text((3, 8)), "3/8")
        self.assertEqual(length_text((2, 1)), "2")
        self.assertEqual(length_text((0, 1)), "0")
        self.assertEqual(length_text((1, 1)), "1")
        self.assertEqual(length_text((9999, 9998)), "9999/9998")

    def test_numbers_of_hundreds_of_figures(self):
        for length in huge_lengths():
            top = str(length[0])
            self.assertEqual(length_text(length), top if length[1] == 1 else top + "/" + str(length[1]))

    def test_numbers_of_thousands_of_figures(self):
        noughts = "0" * 5000
        self.assertEqual(length_text((10 ** 5000, 1)), "1" + noughts)
        self.assertEqual(length_text((10 ** 5000 + 7, 10 ** 5000)), "1" + noughts[1:] + "7/1" + noughts)

    def test_round_the_powers_of_ten(self):
        for power in range(200):
            for top in (10 ** power - 1, 10 ** power, 10 ** power + 1):
                self.assertEqual(length_text((top, 1)), str(top))


class Read(unittest.TestCase):
    def refused(self, text):
        with self.subTest(text=text):
            with self.assertRaises(NoLength):
                read_length(text)

    def check_by_form(self, text):
        found = FORM.fullmatch(text)
        if found is None:
            self.refused(text)
        else:
            self.assertEqual(read_length(text), pair(Fraction(text)), text)

    def test_texts_of_the_form(self):
        for text, length in (("3/8", (3, 8)), ("6/16", (3, 8)), ("4/2", (2, 1)), ("2", (2, 1)), ("0", (0, 1)),
                             ("0/7", (0, 1)), ("0/9999", (0, 1)), ("5/1", (5, 1)), ("9999", (9999, 1)),
                             ("1/9999", (1, 9999)), ("9999/9999", (1, 1)), ("1000/10", (100, 1))):
            self.assertEqual(read_length(text), length)

    def test_what_is_written_is_read(self):
        for top in list(range(40)) + [999, 1000, 9999]:
            for bottom in list(range(1, 40)) + [999, 1000, 9999]:
                length = pair(Fraction(top, bottom))
                self.assertEqual(read_length(length_text(length)), length)

    def test_five_figures(self):
        for text in ("10000", "10000/3", "3/10000", "99999/99999", "9" * 5000, "1/" + "9" * 5000):
            self.refused(text)

    def test_noughts(self):
        for text in ("00", "01", "03/8", "3/08", "0003", "3/0", "0/0", "3/00", "00/3", "3/0001"):
            self.refused(text)

    def test_parts_that_lack(self):
        for text in ("", "/", "3/", "/8", "3//8"):
            self.refused(text)

    def test_a_second_stroke(self):
        for text in ("3/8/", "/3/8", "3/8/1", "1/1/1", "//"):
            self.refused(text)

    def test_blanks_and_line_ends(self):
        for text in (" ", "\n", "3/8\n", "\n3/8", "3/8 ", " 3/8", "3 /8", "3/ 8", "2\n", "2 ", "0\n", "2\r", "\t2"):
            self.refused(text)

    def test_signs_and_points(self):
        for text in ("-3/8", "+3/8", "3/-8", "3/+8", "-0", "-2", "+2", "1.5", "1_0", "1e2", "0x1", "3:8", "3\\8", "a"):
            self.refused(text)

    def test_figures_of_other_scripts(self):
        for figure in ("\u0663", "\u00b2", "\uff13", "\u2463", "\u00bd"):
            for text in (figure, figure + "/8", "3/" + figure, "1" + figure, "3/1" + figure):
                self.refused(text)

    def test_any_sign_in_any_place(self):
        signs = [chr(number) for number in range(128)]
        for text in ("0", "2", "12", "3/8", "10/16", "1234/5678"):
            for place in range(len(text) + 1):
                for sign in signs:
                    self.check_by_form(text[:place] + sign + text[place:])
                    self.check_by_form(text[:place] + sign + text[place + 1:])

    def test_all_short_texts(self):
        for count in range(6):
            for signs in itertools.product("019/- ", repeat=count):
                self.check_by_form("".join(signs))


if __name__ == "__main__":
    unittest.main()
