"""Promises n1 and n2: the constants, rounded, clamped, within, dot."""

import unittest
from fractions import Fraction

from wholenet.numbers import MOST_SIGNAL, MOST_WEIGHT, UNIT, clamped, dot, rounded, within


class Constants(unittest.TestCase):
    def test_constants(self):
        self.assertEqual((UNIT, MOST_WEIGHT, MOST_SIGNAL), (4096, 2 ** 20, 2 ** 24))
        for number in (UNIT, MOST_WEIGHT, MOST_SIGNAL):
            self.assertIs(type(number), int)


class Rounded(unittest.TestCase):
    def test_examples(self):
        self.assertEqual((rounded(5, 2), rounded(7, 2), rounded(-5, 2), rounded(-7, 4)), (2, 4, -2, -2))

    def test_ties_go_to_the_even_integer(self):
        for b in (2, 4, 6, 10, UNIT):
            half = b // 2
            for whole in range(-6, 7):
                even = whole if whole % 2 == 0 else whole + 1
                self.assertEqual(rounded(whole * b + half, b), even, (whole, b))
                self.assertEqual(rounded(whole * b - half, b), even - 2 * (whole % 2), (whole, b))

    def test_one_beside_a_tie(self):
        for b in (4, 6, 10, UNIT):
            half = b // 2
            for whole in range(-6, 7):
                self.assertEqual(rounded(whole * b + half - 1, b), whole)
                self.assertEqual(rounded(whole * b + half + 1, b), whole + 1)
                self.assertEqual(rounded(whole * b - half + 1, b), whole)
                self.assertEqual(rounded(whole * b - half - 1, b), whole - 1)

    def test_odd_divisors_have_no_ties(self):
        self.assertEqual([rounded(a, 3) for a in range(-5, 6)], [-2, -1, -1, -1, 0, 0, 0, 1, 1, 1, 2])

    def test_by_one(self):
        for a in (-10 ** 40, -3, -1, 0, 1, 2, 3, 10 ** 40 + 1):
            self.assertEqual(rounded(a, 1), a)

    def test_against_fractions(self):
        for a in range(-70, 71):
            for b in range(1, 20):
                self.assertEqual(rounded(a, b), round(Fraction(a, b)), (a, b))

    def test_long_numbers(self):
        long = 10 ** 60
        self.assertEqual(rounded(2 * long + 1, 2), long)
        self.assertEqual(rounded(2 * long + 3, 2), long + 2)
        self.assertEqual(rounded(-2 * long - 1, 2), -long)
        self.assertEqual(rounded(-2 * long - 3, 2), -long - 2)
        self.assertEqual(rounded(5 * long, 2 * long), 2)
        self.assertEqual(rounded(5 * long + 1, 2 * long), 3)
        self.assertEqual(rounded(-5 * long, 2 * long), -2)
        self.assertEqual(rounded(-5 * long - 1, 2 * long), -3)
        self.assertEqual(rounded(long - 1, 2 * long), 0)
        a = 31415926535897932384626433832795028841971693993751
        for b in (UNIT ** 7, 27182818284590452353602874713526624977572):
            self.assertEqual(rounded(a, b), round(Fraction(a, b)))
            self.assertEqual(rounded(-a, b), round(Fraction(-a, b)))

    def test_gives_an_integer(self):
        self.assertIs(type(rounded(5, 2)), int)


class Clamped(unittest.TestCase):
    def test_at_the_bound_and_beside_it(self):
        for most in (1, 7, MOST_WEIGHT, MOST_SIGNAL, 10 ** 50):
            for sign in (1, -1):
                self.assertEqual(clamped(sign * (most - 1), most), sign * (most - 1))
                self.assertEqual(clamped(sign * most, most), sign * most)
                self.assertEqual(clamped(sign * (most + 1), most), sign * most)
                self.assertEqual(clamped(sign * 100 * most, most), sign * most)
            self.assertEqual(clamped(0, most), 0)

    def test_most_may_be_nothing(self):
        self.assertEqual([clamped(x, 0) for x in (-1, 0, 1)], [0, 0, 0])

    def test_within(self):
        for most in (0, 1, 7, MOST_WEIGHT, MOST_SIGNAL, 10 ** 50):
            for sign in (1, -1):
                self.assertIs(within(sign * most, most), True)
                self.assertIs(within(sign * (most + 1), most), False)
            self.assertIs(within(0, most), True)
        self.assertIs(within(6, 7), True)
        self.assertIs(within(-6, 7), True)


class Dot(unittest.TestCase):
    def test_rows(self):
        self.assertEqual(dot((2,), (3,)), 6)
        self.assertEqual(dot((1, -2, 3), (4, 5, -6)), -24)
        self.assertEqual(dot((0, 0), (4, 5)), 0)

    def test_empty_rows(self):
        self.assertEqual(dot((), ()), 0)

    def test_nothing_is_rounded_or_clamped(self):
        long = 10 ** 30
        self.assertEqual(dot((long, 1), (long, -1)), 10 ** 60 - 1)
        self.assertEqual(dot((MOST_WEIGHT,) * 64, (MOST_SIGNAL,) * 64), 2 ** 50)

    def test_changes_nothing(self):
        one, other = [1, 2], [3, 4]
        dot(one, other)
        self.assertEqual((one, other), ([1, 2], [3, 4]))


if __name__ == "__main__":
    unittest.main()
