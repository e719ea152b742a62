"""Points 5.1, 5.3 and 5.5, and points 1 and 2 of 0.4."""

import random
import unittest

from similarforms.divisor import common_divisor
from similarforms.errors import Malformed
from similarforms.form import frobenius_form, invariant_factors
from similarforms.ground import Ground
from similarforms.linear import rank
from similarforms.matrix import Matrix, nothing, unit
from similarforms.poly import Poly
from similarforms.similar import are_similar, find_change, rank_at, unlike_polynomial
from tests.samples import bases, chains, in_another_basis, not_square, of_chain, squares, unlike_grounds
from tests.test_form import all_squares
from tests.values import GROUNDS, some_poly


class SimilarTest(unittest.TestCase):
    def setUp(self):
        self.source = random.Random(64)

    def assertSimilar(self, a, b):
        self.assertIs(are_similar(a, b), True)
        p = find_change(a, b)
        self.assertEqual((p.ground, len(p), p.width), (a.ground, len(a), len(a)))
        self.assertEqual(p * a, b * p)
        self.assertFalse(p.determinant().is_zero())
        self.assertIsNone(unlike_polynomial(a, b))
        self.assertEqual(frobenius_form(a), frobenius_form(b))

    def assertUnlike(self, a, b):
        self.assertIs(are_similar(a, b), False)
        self.assertIsNone(find_change(a, b))
        g = unlike_polynomial(a, b)
        self.assertIs(type(g), Poly)
        self.assertEqual(g.ground, a.ground)
        self.assertNotEqual(rank(a.at(g)), rank(b.at(g)))
        self.assertNotEqual(frobenius_form(a), frobenius_form(b))

    def test_similar(self):
        for ground in GROUNDS:
            for a in squares(ground, self.source):
                self.assertSimilar(a, in_another_basis(a, self.source))
                if len(a) < 5:
                    self.assertSimilar(a, a)
                    self.assertSimilar(a, frobenius_form(a))

    def test_chains_of_one_size(self):
        for ground in GROUNDS:
            found = chains(ground)
            for one in found:
                a = in_another_basis(of_chain(ground, one), self.source)
                for other in found:
                    b = of_chain(ground, other)
                    if len(a) == len(b) and one != other:
                        self.assertUnlike(a, b)

    def test_equal_minimal_and_characteristic_polynomials_are_not_enough(self):
        for ground in GROUNDS:
            x, y, q = bases(ground)
            for one, other in (((x * x, x * x), (x * x, x, x)), ((x * x * y, x * x), (x * x * y, x, x)),
                               ((x.power(3), x.power(3), x), (x.power(3), x * x, x * x)),
                               ((q * q, q * q), (q * q, q, q)), ((x * y, x), (x * y, y)), ((x * x,), (x, x))):
                a, b = of_chain(ground, one), of_chain(ground, other)
                for c, d in ((a, b), (b, a), (in_another_basis(a, self.source), in_another_basis(b, self.source))):
                    self.assertUnlike(c, d)

    def test_all_small_matrices(self):
        for p in (2, 3):
            matrices = all_squares(p, 2)
            changes = [(m, m.inverse()) for m in matrices if not m.determinant().is_zero()]
            for a in [self.source.choice(matrices) for _ in range(12)] + [unit(Ground(p), 2), nothing(Ground(p), 2, 2)]:
                orbit = [p * a * q for p, q in changes]
                for b in matrices:
                    if b in orbit:
                        self.assertSimilar(a, b)
                    else:
                        self.assertUnlike(a, b)

    def test_size_zero(self):
        for ground in GROUNDS:
            empty = Matrix(ground, ())
            self.assertSimilar(empty, empty)
            self.assertEqual(find_change(empty, empty), empty)

    def test_rank_at(self):
        for ground in GROUNDS:
            for a in squares(ground, self.source):
                factors = invariant_factors(a)
                x, y, q = bases(ground)
                for g in [x, y, q, x * y, x * x, Poly(ground, ()), Poly(ground, (-1,)), *factors,
                          *[some_poly(ground, 3, self.source) for _ in range(2)]]:
                    told = sum(f.degree() - common_divisor(f, g).degree() for f in factors)
                    self.assertEqual(rank_at(a, g), told)
                    self.assertIs(type(rank_at(a, g)), int)
                    self.assertEqual(told, rank(a.at(g)))

    def test_rank_at_told(self):
        for ground in GROUNDS:
            x, y, q = bases(ground)
            a = of_chain(ground, (x * x * y, x))
            self.assertEqual([rank_at(a, g) for g in (x, x * x, y, x * y, x * x * y, Poly(ground, (1,)), q)],
                             [2, 1, 3, 1, 0, 4, 4])


class MisfitTest(unittest.TestCase):
    def assertMisfit(self, a, b):
        self.assertIs(are_similar(a, b), False)
        for function in (find_change, unlike_polynomial):
            with self.assertRaises(Malformed):
                function(a, b)

    def test_unlike_sizes(self):
        for ground in GROUNDS:
            for m in range(9):
                for n in range(9):
                    if m != n:
                        self.assertMisfit(unit(ground, m), unit(ground, n))

    def test_unlike_grounds(self):
        for one, other in unlike_grounds():
            for n in (0, 1, 3):
                self.assertMisfit(unit(one, n), unit(other, n))
                self.assertMisfit(nothing(one, n, n), nothing(other, n, n))

    def test_not_square(self):
        for ground in GROUNDS:
            for a in not_square(ground):
                for b in (a, unit(ground, min(len(a), 8)), unit(ground, min(a.width, 8)), Matrix(ground, ())):
                    self.assertMisfit(a, b)
                    self.assertMisfit(b, a)
