"""Points 2.2 and 2.3."""

import random
import unittest
from itertools import product

from similarforms.divisor import are_coprime, cofactors, common_divisor, common_multiple, multiplicity, squarefree_part
from similarforms.errors import Malformed, ZeroDivisor
from similarforms.ground import Ground
from similarforms.poly import Poly
from tests.values import GROUNDS, some_poly


def monics(p, most):
    """Return all monic polynomials modulo p up to this degree, by ascending degree."""
    return [Poly(Ground(p), (*row, 1)) for degree in range(most + 1) for row in product(range(p), repeat=degree)]


def divides(g, f):
    return (f % g).is_zero()


def irreducible(f):
    return f.degree() > 0 and not any(divides(g, f) for g in monics(f.ground.p, f.degree() // 2) if g.degree() > 0)


def irreducible_divisors(f):
    """Return the monic irreducible divisors of a polynomial modulo p, found by trying."""
    return [g for g in monics(f.ground.p, f.degree()) if irreducible(g) and divides(g, f)]


def product_of(ground, factors):
    total = Poly(ground, (1,))
    for f in factors:
        total = total * f
    return total


def factors_over(ground):
    """Return some polynomials, any two of them coprime, none of them with a square as divisor, none constant."""
    linear = [Poly(ground, (-c, 1)) for c in range(min(ground.p, 4) if ground.p else 4)]
    other = {0: [(1, 0, 1), (-2, 0, 0, 1)], 2: [(1, 1, 1), (1, 1, 0, 1)], 3: [(1, 0, 1), (1, 2, 0, 1)],
             5: [(2, 0, 1), (1, 1, 0, 1)], 31: [(1, 0, 1), (-3, 0, 0, 1)]}
    return linear + [Poly(ground, row) for row in other[ground.p]]


class CommonTest(unittest.TestCase):
    def test_all_small_polynomials(self):
        for p, most in ((2, 3), (3, 2)):
            ground = Ground(p)
            rows = monics(p, most)
            for f in rows:
                for g in rows:
                    shared = [h for h in rows if divides(h, f) and divides(h, g)]
                    d, m = common_divisor(f, g), common_multiple(f, g)
                    self.assertEqual(d, shared[-1])
                    self.assertEqual(m * d, f * g)
                    self.assertIs(are_coprime(f, g), len(shared) == 1)
                    self.assertEqual(common_divisor(f.scaled(ground.number(-1)), g), d)

    def test_built_from_factors(self):
        source = random.Random(31)
        for ground in GROUNDS:
            base = factors_over(ground)
            for _ in range(25):
                one = [source.randint(0, 2) for _ in base]
                two = [source.randint(0, 2) for _ in base]
                c, e = ground.number(-1), ground.number(1, 4) if ground.p != 2 else ground.one()
                f = product_of(ground, [h.power(k) for h, k in zip(base, one)]).scaled(c)
                g = product_of(ground, [h.power(k) for h, k in zip(base, two)]).scaled(e)
                least = product_of(ground, [h.power(min(i, k)) for h, i, k in zip(base, one, two)])
                most = product_of(ground, [h.power(max(i, k)) for h, i, k in zip(base, one, two)])
                self.assertEqual(common_divisor(f, g), least)
                self.assertEqual(common_multiple(f, g), most)
                self.assertIs(are_coprime(f, g), least.degree() == 0)
                for j, h in enumerate(base):
                    self.assertEqual(multiplicity(f, h), one[j])
                    self.assertEqual(multiplicity(f, h.scaled(e)), one[j])
                support = product_of(ground, [h for h, k in zip(base, one) if k > 0])
                self.assertEqual(squarefree_part(f), support)

    def test_zero_and_constants(self):
        for ground in GROUNDS:
            nothing, one, f = Poly(ground, ()), Poly(ground, (1,)), Poly(ground, (1, 1, -1))
            self.assertEqual(common_divisor(nothing, nothing), nothing)
            self.assertEqual(common_divisor(f, nothing), f.monic())
            self.assertEqual(common_divisor(nothing, f), f.monic())
            self.assertEqual(common_divisor(Poly(ground, (-1,)), nothing), one)
            self.assertEqual(common_divisor(f, Poly(ground, (-1,))), one)
            for g in (nothing, one, f):
                self.assertEqual(common_multiple(g, nothing), nothing)
                self.assertEqual(common_multiple(nothing, g), nothing)
            self.assertEqual(common_multiple(Poly(ground, (-1,)), f), f.monic())
            self.assertIs(are_coprime(nothing, nothing), False)
            self.assertIs(are_coprime(nothing, one), True)
            self.assertIs(are_coprime(Poly(ground, (-1,)), nothing), True)
            self.assertIs(are_coprime(nothing, f), False)
            self.assertIs(are_coprime(f, one), True)

    def test_cofactors(self):
        source = random.Random(32)
        for ground in GROUNDS:
            nothing = Poly(ground, ())
            pairs = [(nothing, nothing), (nothing, Poly(ground, (1, -1))), (Poly(ground, (1, -1)), nothing),
                     (Poly(ground, (-1,)), nothing), (Poly(ground, (-1,)), Poly(ground, (-1,)))]
            for _ in range(40):
                h = some_poly(ground, source.randint(-1, 2), source)
                f, g = (some_poly(ground, source.randint(-1, 5), source) * h for _ in range(2))
                pairs.append((f, g))
            for f, g in pairs:
                answer = cofactors(f, g)
                self.assertIs(type(answer), tuple)
                d, u, v = answer
                self.assertEqual(d, common_divisor(f, g))
                self.assertEqual(u * f + v * g, d)
                self.assertEqual((u.ground, v.ground), (ground, ground))

    def test_unlike_grounds(self):
        for one in GROUNDS:
            for other in GROUNDS:
                if one != other:
                    for f, g in ((Poly(one, (1, 1)), Poly(other, (1, 1))), (Poly(one, ()), Poly(other, ())),
                                 (Poly(one, ()), Poly(other, (1, 1))), (Poly(one, (1, 1)), Poly(other, ()))):
                        for function in (common_divisor, common_multiple, are_coprime, cofactors, multiplicity):
                            with self.assertRaises(Malformed):
                                function(f, g)


class SquarefreeTest(unittest.TestCase):
    def test_all_small_polynomials(self):
        for p, most in ((2, 6), (3, 4), (5, 2)):
            for f in monics(p, most):
                expected = product_of(Ground(p), irreducible_divisors(f))
                self.assertEqual(squarefree_part(f), expected)
                self.assertEqual(squarefree_part(f.scaled(Ground(p).number(-1))), expected)

    def test_derivative_zero(self):
        for p in (2, 3, 5, 31):
            ground = Ground(p)
            zeros = (0,) * (p - 1)
            x = Poly(ground, (0, 1))
            self.assertEqual(squarefree_part(x.power(p)), x)
            self.assertEqual(squarefree_part(Poly(ground, (1, *zeros, 1))), Poly(ground, (1, 1)))
            self.assertEqual(squarefree_part(x.power(p * p)), x)
            f = Poly(ground, (0, *zeros, 1, *zeros, 1))
            self.assertEqual(squarefree_part(f), Poly(ground, (0, 1, 1)))
        f = Poly(Ground(3), (1, 0, 0, 0, 0, 0, 1))
        self.assertEqual(squarefree_part(f), Poly(Ground(3), (1, 0, 1)))

    def test_mixed_exponents_modulo_p(self):
        for p in (2, 3, 5, 31):
            ground = Ground(p)
            one, two, three = factors_over(ground)[:2] + factors_over(ground)[-1:]
            for i, k, j in ((1, p, 0), (p, 2, 1), (p, 2 * p, p), (p + 1, p, 1), (2, p - 1, p), (p, 0, 0)):
                f = one.power(i) * two.power(k) * three.power(j)
                expected = product_of(ground, [h for h, e in ((one, i), (two, k), (three, j)) if e > 0])
                self.assertEqual(squarefree_part(f), expected)

    def test_constants(self):
        for ground in GROUNDS:
            self.assertEqual(squarefree_part(Poly(ground, (-1,))), Poly(ground, (1,)))
            with self.assertRaises(ZeroDivisor):
                squarefree_part(Poly(ground, ()))


class MultiplicityTest(unittest.TestCase):
    def test_told(self):
        for ground in GROUNDS:
            x, g = Poly(ground, (0, 1)), Poly(ground, (1, 1))
            for k in range(6):
                self.assertEqual(multiplicity(x.power(k) * g, x), k)
                self.assertEqual(multiplicity((x * g).power(k), x * g), k)
                self.assertEqual(multiplicity(g.power(2 * k + 1), g.power(2)), k)
            self.assertEqual(multiplicity(Poly(ground, (1,)), x), 0)

    def test_errors_in_their_order(self):
        for ground in GROUNDS:
            nothing, one, x = Poly(ground, ()), Poly(ground, (1,)), Poly(ground, (0, 1))
            for g in (nothing, one, x):
                with self.assertRaises(ZeroDivisor):
                    multiplicity(nothing, g)
            for f in (one, x):
                for g in (nothing, one, Poly(ground, (-1,))):
                    with self.assertRaises(Malformed):
                        multiplicity(f, g)
