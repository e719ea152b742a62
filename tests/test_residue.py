"""Point 1.3."""

import unittest

from similarforms.errors import Malformed, ZeroDivisor
from similarforms.ratio import Ratio
from similarforms.residue import Residue
from tests.values import LARGE, PRIMES, every_value


class ResidueTest(unittest.TestCase):
    def assertIsResidue(self, value, p, n):
        self.assertIs(type(value), Residue)
        self.assertIs(type(value.n), int)
        self.assertEqual((value.p, value.n), (p, n))

    def test_number_from_zero_to_p_less_one(self):
        for p in PRIMES:
            for n in list(range(-2 * p - 1, 2 * p + 2)) + [LARGE, -LARGE, LARGE + 1, -LARGE - 1]:
                value = Residue(p, n)
                self.assertIsResidue(value, p, n % p)
                self.assertIn(value.n, range(p))

    def test_a_modulus_that_is_no_small_prime(self):
        for p in [*range(-40, 60), LARGE, -LARGE]:
            if p not in PRIMES:
                with self.assertRaises(Malformed):
                    Residue(p, 1)
        for p in every_value():
            if not (type(p) is int and p in PRIMES):
                with self.assertRaises(Malformed):
                    Residue(p, 1)

    def test_a_number_that_is_no_integer(self):
        for n in every_value():
            if type(n) is not int:
                for p in (2, 31):
                    with self.assertRaises(Malformed):
                        Residue(p, n)

    def test_sum_difference_product_quotient(self):
        for p in PRIMES:
            for n in range(p):
                for m in range(p):
                    a, b = Residue(p, n), Residue(p, m)
                    self.assertIsResidue(a + b, p, (n + m) % p)
                    self.assertIsResidue(a - b, p, (n - m) % p)
                    self.assertIsResidue(a * b, p, n * m % p)
                    if m == 0:
                        with self.assertRaises(ZeroDivisor):
                            a.over(b)
                    else:
                        self.assertIsResidue(a.over(b), p, n * pow(m, -1, p) % p)

    def test_negative_inverse_is_zero(self):
        for p in PRIMES:
            for n in range(p):
                self.assertIsResidue(-Residue(p, n), p, -n % p)
                self.assertIs(Residue(p, n).is_zero(), n == 0)
                if n != 0:
                    self.assertIsResidue(Residue(p, n).inverse(), p, pow(n, -1, p))
            with self.assertRaises(ZeroDivisor):
                Residue(p, 0).inverse()

    def test_power(self):
        for p in PRIMES:
            for n in range(p):
                for k in [*range(-6, 12), 10 ** 30]:
                    if n == 0 and k < 0:
                        with self.assertRaises(ZeroDivisor):
                            Residue(p, n).power(k)
                    else:
                        self.assertIsResidue(Residue(p, n).power(k), p, pow(n, k, p))

    def test_power_with_a_long_exponent(self):
        for p in (2, 31):
            for k in (LARGE, -LARGE):
                self.assertIsResidue(Residue(p, p - 1).power(k), p, 1)
        self.assertIsResidue(Residue(7, 0).power(LARGE), 7, 0)

    def test_equality(self):
        for p in PRIMES:
            for q in PRIMES:
                for n in range(p):
                    for m in range(q):
                        self.assertIs(Residue(p, n) == Residue(q, m), (p, n) == (q, m))

    def test_equality_with_every_value(self):
        for value in every_value():
            for a in (Residue(2, 0), Residue(2, 1), Residue(3, 1)):
                same = type(value) is Residue and (value.p, value.n) == (a.p, a.n)
                self.assertIs(a == value, same)
                self.assertIs(a != value, not same)

    def test_operators_beside_other_values(self):
        for p in PRIMES:
            for value in every_value():
                if not (type(value) is Residue and value.p == p):
                    with self.assertRaises(Malformed):
                        Residue(p, 1) + value
                    with self.assertRaises(Malformed):
                        Residue(p, 0) - value
                    with self.assertRaises(Malformed):
                        Residue(p, 1) * value

    def test_operators_beside_another_prime(self):
        for p in PRIMES:
            for q in PRIMES:
                if p != q:
                    with self.assertRaises(Malformed):
                        Residue(p, 0) + Residue(q, 0)
                    with self.assertRaises(Malformed):
                        Residue(p, 1) - Residue(q, 1)
                    with self.assertRaises(Malformed):
                        Residue(p, 1) * Residue(q, 1)
                    with self.assertRaises(Malformed):
                        Residue(p, 1).over(Residue(q, 0))
        with self.assertRaises(Malformed):
            Residue(5, 1).over(Ratio(1))

    def test_written_form(self):
        for p in PRIMES:
            for n in range(p):
                self.assertEqual(str(Residue(p, n)), str(n))
            self.assertEqual(str(Residue(p, -1)), str(p - 1))
