"""Points 2.1 and 2.4."""

import random
import unittest

from similarforms.errors import Malformed, ZeroDivisor
from similarforms.ground import Ground
from similarforms.poly import Poly
from similarforms.ratio import Ratio
from similarforms.residue import Residue
from tests.values import GROUNDS, LARGE, every_value, some, some_poly

ROWS = ((), (1,), (-2,), (0, 1), (3, 0, 0, 2), (1, 1), (4, -3, 0, 0, 7, 1), (30, 30, 30), (0, 0, 0, -1))


def product_of(one, two):
    out = [0] * (len(one) + len(two))
    for i, x in enumerate(one):
        for k, y in enumerate(two):
            out[i + k] += x * y
    return out


def sum_of(one, two, sign=1):
    length = max(len(one), len(two))
    one = list(one) + [0] * (length - len(one))
    two = list(two) + [0] * (length - len(two))
    return [x + sign * y for x, y in zip(one, two)]


class PolyTest(unittest.TestCase):
    def assertIsPoly(self, value, ground, items):
        """Assert that the value is the polynomial with these integer coefficients taken into the ground."""
        numbers = [ground.number(item) for item in items]
        while numbers and numbers[-1] == ground.zero():
            numbers.pop()
        self.assertIs(type(value), Poly)
        self.assertIs(type(value.row), tuple)
        self.assertEqual(value.ground, ground)
        self.assertEqual(value.row, tuple(numbers))
        self.assertTrue(all(ground.is_member(item) for item in value.row))

    def test_items_are_taken_into_the_ground(self):
        for ground in GROUNDS:
            for row in (*ROWS, (LARGE, -LARGE, 1), (0, 31, 60, 90)):
                self.assertIsPoly(Poly(ground, row), ground, row)
                self.assertIsPoly(Poly(ground, list(row)), ground, row)
                self.assertIsPoly(Poly(ground, [ground.number(item) for item in row]), ground, row)
            self.assertIsPoly(Poly(ground, (1, ground.number(2), -1)), ground, (1, 2, -1))

    def test_zeros_at_the_end_are_left_out(self):
        for ground in GROUNDS:
            for zeros in range(4):
                self.assertEqual(Poly(ground, (0,) * zeros).row, ())
                self.assertIsPoly(Poly(ground, (0, 1) + (0,) * zeros), ground, (0, 1))
                self.assertIsPoly(Poly(ground, [0, 1] + [ground.zero()] * zeros), ground, (0, 1))
        self.assertEqual(Poly(Ground(5), (1, 5, -10)).row, (Residue(5, 1),))

    def test_other_rows(self):
        for ground in GROUNDS:
            for value in every_value():
                if not isinstance(value, (list, tuple)):
                    with self.assertRaises(Malformed):
                        Poly(ground, value)

    def test_other_items(self):
        for ground in GROUNDS:
            for item in every_value():
                if type(item) is not int and not ground.is_member(item):
                    for row in ((item,), [1, item], (item, 0), (0, item, 0)):
                        with self.assertRaises(Malformed):
                            Poly(ground, row)

    def test_sum_difference_product_negative(self):
        for ground in GROUNDS:
            for one in ROWS:
                f = Poly(ground, one)
                self.assertIsPoly(-f, ground, [-x for x in one])
                for two in ROWS:
                    g = Poly(ground, two)
                    self.assertIsPoly(f + g, ground, sum_of(one, two))
                    self.assertIsPoly(f - g, ground, sum_of(one, two, -1))
                    self.assertIsPoly(f * g, ground, product_of(one, two))

    def test_quotient_and_remainder(self):
        source = random.Random(21)
        for ground in GROUNDS:
            for _ in range(60):
                f = some_poly(ground, source.randint(-1, 7), source)
                g = some_poly(ground, source.randint(-1, 4), source)
                if g.is_zero():
                    continue
                quotient, remainder = f // g, f % g
                self.assertEqual(quotient * g + remainder, f)
                self.assertLess(remainder.degree(), g.degree())
                self.assertEqual(f * g // g, f)
                self.assertTrue((f * g % g).is_zero())

    def test_quotient_and_remainder_told(self):
        f, g = Poly(Ground(), (1, 0, 3)), Poly(Ground(), (1, 2))
        self.assertEqual(f // g, Poly(Ground(), (Ratio(-3, 4), Ratio(3, 2))))
        self.assertEqual(f % g, Poly(Ground(), (Ratio(7, 4),)))
        self.assertEqual(g // f, Poly(Ground(), ()))
        self.assertEqual(g % f, g)
        self.assertEqual(f // Poly(Ground(), (2,)), Poly(Ground(), (Ratio(1, 2), 0, Ratio(3, 2))))

    def test_divisor_zero(self):
        for ground in GROUNDS:
            for row in ROWS:
                f, nothing = Poly(ground, row), Poly(ground, (0,))
                with self.assertRaises(ZeroDivisor):
                    f // nothing
                with self.assertRaises(ZeroDivisor):
                    f % nothing

    def test_unlike_grounds(self):
        for one in GROUNDS:
            for other in GROUNDS:
                if one != other:
                    for row in ((), (1,), (1, 1)):
                        f, g = Poly(one, (1, 1)), Poly(other, row)
                        for attempt in (lambda: f + g, lambda: f - g, lambda: f * g, lambda: f // g, lambda: f % g):
                            with self.assertRaises(Malformed):
                                attempt()

    def test_equality(self):
        for ground in GROUNDS:
            for one in ROWS:
                for two in ROWS:
                    same = Poly(ground, one).row == Poly(ground, two).row
                    self.assertIs(Poly(ground, one) == Poly(ground, two), same)
                    self.assertIs(Poly(ground, one) != Poly(ground, two), not same)
            self.assertEqual(Poly(ground, (1, 2)), Poly(ground, [ground.one(), 2, 0]))
        for one in GROUNDS:
            for other in GROUNDS:
                self.assertIs(Poly(one, ()) == Poly(other, ()), one == other)
                self.assertIs(Poly(one, (1, 1)) == Poly(other, (1, 1)), one == other)

    def test_equality_with_every_value(self):
        for value in every_value():
            for f in (Poly(Ground(), ()), Poly(Ground(3), (1, 2)), Poly(Ground(), (1,))):
                same = type(value) is Poly and (value.ground.p, value.row) == (f.ground.p, f.row)
                self.assertIs(f == value, same)

    def test_value(self):
        source = random.Random(22)
        for ground in GROUNDS:
            for _ in range(30):
                f, x = some_poly(ground, source.randint(-1, 6), source), some(ground, source)
                total, power = ground.zero(), ground.one()
                for c in f.row:
                    total, power = total + c * power, power * x
                self.assertEqual(f(x), total)
                self.assertTrue(ground.is_member(f(x)))
            self.assertEqual(Poly(ground, ())(ground.one()), ground.zero())
            self.assertEqual(Poly(ground, (7, 5, 3))(ground.zero()), ground.number(7))
        self.assertEqual(Poly(Ground(), (1, 0, 1))(Ratio(1, 2)), Ratio(5, 4))

    def test_degree_and_is_zero(self):
        for ground in GROUNDS:
            self.assertEqual(Poly(ground, ()).degree(), -1)
            self.assertIs(Poly(ground, ()).is_zero(), True)
            self.assertIs(Poly(ground, (0, 0)).is_zero(), True)
            for degree in range(70):
                f = Poly(ground, (0,) * degree + (1,))
                self.assertEqual(f.degree(), degree)
                self.assertIs(f.is_zero(), False)

    def test_coefficient(self):
        for ground in GROUNDS:
            for row in ROWS:
                f = Poly(ground, row)
                for k in (*range(-9, 12), LARGE, -LARGE):
                    expected = f.row[k] if 0 <= k <= f.degree() else ground.zero()
                    self.assertEqual(f.coefficient(k), expected)
                    self.assertTrue(ground.is_member(f.coefficient(k)))

    def test_scaled(self):
        for ground in GROUNDS:
            for row in ROWS:
                for c in (0, 1, -1, 2, 3, 5):
                    self.assertIsPoly(Poly(ground, row).scaled(ground.number(c)), ground, [c * x for x in row])

    def test_monic(self):
        for ground in GROUNDS:
            self.assertEqual(Poly(ground, ()).monic(), Poly(ground, ()))
            for row in ROWS:
                f = Poly(ground, row)
                if not f.is_zero():
                    self.assertEqual(f.monic().row[-1], ground.one())
                    self.assertEqual(f.monic().scaled(f.row[-1]), f)
        self.assertEqual(Poly(Ground(), (1, 2)).monic(), Poly(Ground(), (Ratio(1, 2), 1)))

    def test_derivative(self):
        for ground in GROUNDS:
            for row in (*ROWS, (1, 1, 1, 1, 1, 1, 1, 1)):
                expected = [k * row[k] for k in range(1, len(row))]
                self.assertIsPoly(Poly(ground, row).derivative(), ground, expected)
            if ground.p:
                self.assertTrue(Poly(ground, (1,) + (0,) * (ground.p - 1) + (1,)).derivative().is_zero())

    def test_power(self):
        for ground in GROUNDS:
            for row in ROWS:
                expected = [1]
                for k in range(7):
                    self.assertIsPoly(Poly(ground, row).power(k), ground, expected)
                    expected = product_of(expected, row)
            self.assertIsPoly(Poly(ground, ()).power(0), ground, (1,))
            self.assertIsPoly(Poly(ground, ()).power(3), ground, ())
            self.assertIsPoly(Poly(ground, (0, 1)).power(50), ground, (0,) * 50 + (1,))


class TextTest(unittest.TestCase):
    def test_rationals(self):
        texts = (
            ((), "0"), ((0, 0), "0"), ((1,), "(1)"), ((-3,), "(-3)"), ((0, 1), "(1)*x"), ((0, 0, -1), "(-1)*x^2"),
            ((1, 1), "(1)*x + (1)"), ((2, 0, 0, 1), "(1)*x^3 + (2)"), ((Ratio(-1, 2),), "(-1/2)"),
            ((Ratio(1, 2), Ratio(-2, 3)), "(-2/3)*x + (1/2)"), ((0, -1, 0, Ratio(7, 5)), "(7/5)*x^3 + (-1)*x"),
            ((1,) * 12, " + ".join(f"(1)*x^{k}" for k in range(11, 1, -1)) + " + (1)*x + (1)"),
        )
        for row, text in texts:
            self.assertEqual(str(Poly(Ground(), row)), text)

    def test_modulo_a_prime(self):
        self.assertEqual(str(Poly(Ground(2), (1, 0, 3, 2))), "(1)*x^2 + (1)")
        self.assertEqual(str(Poly(Ground(3), (-1, -1))), "(2)*x + (2)")
        self.assertEqual(str(Poly(Ground(5), (5, 10))), "0")
        self.assertEqual(str(Poly(Ground(5), (4, 0, 0, 3, 0))), "(3)*x^3 + (4)")
        self.assertEqual(str(Poly(Ground(31), (-1, 30, 12))), "(12)*x^2 + (30)*x + (30)")

    def test_long_coefficients(self):
        self.assertEqual(str(Poly(Ground(), (0, LARGE))), "(1" + "0" * 5000 + ")*x")
