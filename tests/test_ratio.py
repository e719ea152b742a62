"""Points 1.1 and 1.2."""

import random
import unittest
from fractions import Fraction
from math import gcd

from similarforms.errors import Malformed, ZeroDivisor
from similarforms.ratio import Ratio, is_integer
from similarforms.residue import Residue
from tests.values import LARGE, every_value, fraction

PAIRS = [(n, d) for n in range(-7, 8) for d in range(-6, 7) if d != 0]


class IsIntegerTest(unittest.TestCase):
    def test_integers_of_any_size(self):
        for value in (0, 1, -1, 2 ** 64, -2 ** 64, LARGE, -LARGE):
            self.assertIs(is_integer(value), True)

    def test_true_and_false_are_none(self):
        self.assertIs(is_integer(True), False)
        self.assertIs(is_integer(False), False)

    def test_other_values(self):
        for value in every_value():
            self.assertIs(is_integer(value), type(value) is int)
        for value in ("", "1", None, [], [1], (), (1,), Ratio(1), Residue(2, 1)):
            self.assertIs(is_integer(value), False)


class RatioTest(unittest.TestCase):
    def assertIsRatio(self, value, expected):
        self.assertIs(type(value), Ratio)
        self.assertIs(type(value.n), int)
        self.assertIs(type(value.d), int)
        self.assertEqual((value.n, value.d), (expected.numerator, expected.denominator))

    def test_lowest_terms(self):
        for n, d in PAIRS:
            value = Ratio(n, d)
            self.assertIsRatio(value, Fraction(n, d))
            self.assertGreater(value.d, 0)
            self.assertEqual(gcd(value.n, value.d), 1)

    def test_lowest_terms_told(self):
        self.assertEqual((Ratio(6, -4).n, Ratio(6, -4).d), (-3, 2))
        self.assertEqual((Ratio(-6, -4).n, Ratio(-6, -4).d), (3, 2))
        self.assertEqual((Ratio(0, -5).n, Ratio(0, -5).d), (0, 1))
        self.assertEqual((Ratio(7).n, Ratio(7).d), (7, 1))
        self.assertEqual((Ratio(LARGE, 2 * LARGE).n, Ratio(LARGE, 2 * LARGE).d), (1, 2))

    def test_denominator_zero(self):
        for n in (0, 1, -3, LARGE):
            with self.assertRaises(ZeroDivisor):
                Ratio(n, 0)

    def test_sum_difference_product_quotient(self):
        for n, d in PAIRS[::3]:
            for m, e in PAIRS[::4]:
                a, b, x, y = Ratio(n, d), Ratio(m, e), Fraction(n, d), Fraction(m, e)
                self.assertIsRatio(a + b, x + y)
                self.assertIsRatio(a - b, x - y)
                self.assertIsRatio(a * b, x * y)
                if m != 0:
                    self.assertIsRatio(a.over(b), x / y)
                else:
                    with self.assertRaises(ZeroDivisor):
                        a.over(b)

    def test_negative_inverse_is_zero(self):
        for n, d in PAIRS:
            self.assertIsRatio(-Ratio(n, d), -Fraction(n, d))
            self.assertIs(Ratio(n, d).is_zero(), n == 0)
            if n != 0:
                self.assertIsRatio(Ratio(n, d).inverse(), 1 / Fraction(n, d))
        with self.assertRaises(ZeroDivisor):
            Ratio(0).inverse()

    def test_power(self):
        for n, d in PAIRS:
            for k in range(-5, 9):
                if n == 0 and k < 0:
                    with self.assertRaises(ZeroDivisor):
                        Ratio(n, d).power(k)
                else:
                    self.assertIsRatio(Ratio(n, d).power(k), Fraction(n, d) ** k)
        self.assertIsRatio(Ratio(0).power(0), Fraction(1))
        self.assertIsRatio(Ratio(-1).power(LARGE + 1), Fraction(-1))

    def test_long_numbers(self):
        source = random.Random(12)
        for _ in range(20):
            n, m = source.randint(-LARGE, LARGE), source.randint(-LARGE, LARGE)
            self.assertEqual(fraction(Ratio(n, 3) + Ratio(m, 7)), Fraction(n, 3) + Fraction(m, 7))

    def test_equality(self):
        for n, d in PAIRS:
            for m, e in PAIRS:
                self.assertIs(Ratio(n, d) == Ratio(m, e), n * e == m * d)
                self.assertIs(Ratio(n, d) != Ratio(m, e), n * e != m * d)

    def test_equality_with_every_value(self):
        for value in every_value():
            for a in (Ratio(0), Ratio(1), Ratio(-1), Ratio(1, 2)):
                same = type(value) is Ratio and fraction(value) == fraction(a)
                self.assertIs(a == value, same)
                self.assertIs(a != value, not same)

    def test_operators_beside_other_values(self):
        for value in every_value():
            if type(value) is not Ratio:
                for a in (Ratio(0), Ratio(1), Ratio(-3, 2)):
                    with self.assertRaises(Malformed):
                        a + value
                    with self.assertRaises(Malformed):
                        a - value
                    with self.assertRaises(Malformed):
                        a * value
        for value in (1, Residue(2, 1)):
            with self.assertRaises(Malformed):
                Ratio(1).over(value)

    def test_written_form(self):
        forms = {(0, 1): "0", (5, 1): "5", (-5, 1): "-5", (1, 2): "1/2", (-1, 2): "-1/2", (10, -4): "-5/2",
                 (100, 1): "100", (7, 30): "7/30", (0, 9): "0"}
        for (n, d), text in forms.items():
            self.assertEqual(str(Ratio(n, d)), text)
        for n, d in PAIRS:
            self.assertEqual(str(Ratio(n, d)), str(Fraction(n, d)))
