"""Chapter 6, and point 3 of 0.4."""

import random
import unittest

from similarforms.commuting import (commutant, commutant_dimension, commute, intertwiner_dimension, intertwiners,
                                    is_cyclic, polynomial_of)
from similarforms.eliminate import eliminated
from similarforms.errors import Malformed
from similarforms.form import invariant_factors
from similarforms.ground import Ground
from similarforms.matrix import Matrix, companion, diagonal, nothing, unit
from similarforms.minimal import minimal_polynomial
from similarforms.poly import Poly
from tests.samples import bases, chained, not_square, squares, unlike_grounds
from tests.test_form import all_squares
from tests.values import GROUNDS, some_matrix, some_poly


def equations(a, b):
    """Return the rows of coefficients of the equations A X = X B for the items of X, one for each item of A X."""
    m, n, zero = len(a), len(b), a.ground.zero()
    found = []
    for i in range(m):
        for j in range(n):
            row = [zero] * (m * n)
            for k in range(m):
                row[k * n + j] = row[k * n + j] + a.rows[i][k]
            for k in range(n):
                row[i * n + k] = row[i * n + k] - b.rows[k][j]
            found.append(row)
    return found


def solutions(ground, rows, count):
    """Return the reduced basis of the rows of `count` items that fulfil all equations.

    Solved for the last items that can be, each basis row begins with the 1 of an item that was free.
    """
    done, _, pivots = eliminated([row[::-1] for row in rows], count)
    found = []
    for free in range(count):
        if count - 1 - free not in pivots:
            items = [ground.zero()] * count
            items[free] = ground.one()
            for row, pivot in zip(done, pivots):
                items[count - 1 - pivot] = -row[count - 1 - free]
            found.append(tuple(items))
    return found


def flat(m):
    return tuple(item for row in m.rows for item in row)


class Base(unittest.TestCase):
    def setUp(self):
        self.source = random.Random(71)

    def assertReducedRows(self, rows):
        pivots = []
        for row in rows:
            self.assertTrue(any(not x.is_zero() for x in row))
            pivots.append(next(k for k, x in enumerate(row) if not x.is_zero()))
        self.assertEqual(pivots, sorted(set(pivots)))
        for i, row in enumerate(rows):
            self.assertEqual([row[k].n for k in pivots], [int(i == j) for j in range(len(pivots))])


class SpaceTest(Base):
    def assertIntertwines(self, a, b):
        found = intertwiners(a, b)
        self.assertIs(type(found), tuple)
        for x in found:
            self.assertIs(type(x), Matrix)
            self.assertEqual((x.ground, len(x), x.width), (a.ground, len(a), len(b)))
            self.assertEqual(a * x, x * b)
        self.assertReducedRows([flat(x) for x in found])
        self.assertEqual([flat(x) for x in found], solutions(a.ground, equations(a, b), len(a) * len(b)))
        self.assertEqual(intertwiner_dimension(a, b), len(found))

    def test_intertwiners_of_unlike_matrices(self):
        for ground in GROUNDS:
            matrices = squares(ground, self.source)
            for _ in range(40):
                self.assertIntertwines(self.source.choice(matrices), self.source.choice(matrices))

    def test_intertwiners_of_chains(self):
        for ground in GROUNDS:
            pairs = [(chain, a) for chain, a in chained(ground, self.source) if len(a) < 6]
            for _, a in pairs:
                for _, b in [self.source.choice(pairs) for _ in range(4)]:
                    self.assertIntertwines(a, b)

    def test_size_zero(self):
        for ground in GROUNDS:
            empty = Matrix(ground, ())
            for n in range(9):
                for a, b in ((empty, unit(ground, n)), (unit(ground, n), empty)):
                    self.assertEqual(intertwiners(a, b), ())
                    self.assertEqual(intertwiner_dimension(a, b), 0)
            self.assertEqual(commutant(empty), ())
            self.assertEqual(commutant_dimension(empty), 0)

    def test_size_eight(self):
        for ground in GROUNDS:
            found = commutant(unit(ground, 8).scaled(ground.number(3)))
            self.assertEqual([flat(x) for x in found], [tuple(ground.number(int(i == k)) for i in range(64))
                                                        for k in range(64)])
            a, b = some_matrix(ground, 8, 8, self.source), some_matrix(ground, 8, 8, self.source)
            self.assertIntertwines(a, a)
            self.assertIntertwines(a, b)
            self.assertIntertwines(diagonal(ground, (companion(Poly(ground, (1, 0, 1))),) * 4), a)
            self.assertIntertwines(nothing(ground, 8, 8), unit(ground, 8))

    def test_told(self):
        for ground in GROUNDS:
            shift, other = companion(Poly(ground, (0, 0, 1))), companion(Poly(ground, (0, 1)))
            self.assertEqual(intertwiners(shift, other), (Matrix(ground, ((1,), (0,))),))
            self.assertEqual(intertwiners(other, shift), (Matrix(ground, ((0, 1),)),))
            self.assertEqual(commutant(shift), (unit(ground, 2), shift))
            self.assertEqual(intertwiners(unit(ground, 1), nothing(ground, 2, 2)), ())

    def test_commutant(self):
        for ground in GROUNDS:
            for chain, a in chained(ground, self.source):
                members = commutant(a)
                self.assertEqual(members, intertwiners(a, a))
                told = sum((2 * i - 1) * f.degree() for i, f in enumerate(chain, 1))
                self.assertEqual(commutant_dimension(a), told)
                self.assertEqual(len(members), told)
                self.assertTrue(all(commute(a, x) for x in members))

    def test_the_commutant_holds_all_products(self):
        for ground in GROUNDS:
            for a in squares(ground, self.source):
                members = commutant(a)
                rows = [flat(x) for x in members]
                pairs = [(self.source.choice(members), self.source.choice(members)) for _ in range(2) if members]
                for x, y in pairs:
                    self.assertEqual(len(eliminated(rows + [flat(x * y)], len(a) ** 2)[0]), len(rows))

    def test_commutant_by_trying_all_matrices(self):
        for p, n in ((2, 3), (3, 2), (2, 2)):
            matrices = all_squares(p, n)
            for a in [self.source.choice(matrices) for _ in range(6)] + [unit(Ground(p), n)]:
                many = sum(a * x == x * a for x in matrices)
                self.assertEqual(many, p ** len(commutant(a)))
                self.assertEqual(many, p ** commutant_dimension(a))


class ValueTest(Base):
    def test_commute(self):
        found = {True: 0, False: 0}
        for ground in GROUNDS:
            for n in range(5):
                for _ in range(6):
                    a, b = some_matrix(ground, n, n, self.source), some_matrix(ground, n, n, self.source)
                    self.assertIs(commute(a, b), a * b == b * a)
                    found[commute(a, b)] += 1
                    self.assertIs(commute(a, a.at(some_poly(ground, 4, self.source))), True)
        self.assertGreater(min(found.values()), 20)

    def test_polynomial_of(self):
        for ground in GROUNDS:
            for a in squares(ground, self.source):
                f = minimal_polynomial(a)
                for degree in (-1, 0, 1, 2, f.degree() - 1, f.degree(), 9):
                    g = some_poly(ground, degree, self.source)
                    self.assertEqual(polynomial_of(a, a.at(g)), g % f)
                self.assertEqual(polynomial_of(a, a), Poly(ground, (0, 1)) % f)

    def test_what_has_no_polynomial(self):
        for ground in GROUNDS:
            part = Matrix(ground, ((1, 0), (0, 0)))
            for a in (unit(ground, 2), nothing(ground, 2, 2)):
                self.assertTrue(commute(a, part))
                self.assertIsNone(polynomial_of(a, part))
            self.assertIsNone(polynomial_of(part, Matrix(ground, ((0, 1), (0, 0)))))
            self.assertEqual(polynomial_of(part, unit(ground, 2) - part), Poly(ground, (1, -1)))
            for a in squares(ground, self.source):
                for _ in range(2):
                    x = some_matrix(ground, len(a), len(a), self.source)
                    powers = [flat(a.power(k)) for k in range(minimal_polynomial(a).degree())]
                    held = len(eliminated(powers + [flat(x)], len(a) ** 2)[0]) == len(powers)
                    self.assertIs(polynomial_of(a, x) is not None, held)

    def test_cyclic(self):
        for ground in GROUNDS:
            for a in squares(ground, self.source):
                cyclic = is_cyclic(a)
                self.assertIs(cyclic, len(invariant_factors(a)) <= 1)
                members = commutant(a)
                self.assertIs(all([polynomial_of(a, x) is not None for x in members]), cyclic)
                self.assertIs(len(members) == minimal_polynomial(a).degree(), cyclic)
            x, y, q = bases(ground)
            self.assertIs(is_cyclic(Matrix(ground, ())), True)
            self.assertIs(is_cyclic(diagonal(ground, [companion(f) for f in (x * x, y, q)])), True)
            self.assertIs(is_cyclic(diagonal(ground, [companion(f) for f in (x * x, y, x)])), False)

    def test_what_commutes_with_all_of_the_commutant_has_a_polynomial(self):
        for p, n in ((2, 3), (3, 2), (2, 2)):
            matrices = all_squares(p, n)
            for a in [self.source.choice(matrices) for _ in range(5)] + [unit(Ground(p), n), diagonal(
                    Ground(p), [companion(Poly(Ground(p), (0, 1)))] * (n - 1) + [unit(Ground(p), 1)])]:
                members = commutant(a)
                for x in matrices:
                    commutes = all(commute(x, y) for y in members)
                    self.assertIs(polynomial_of(a, x) is not None, commutes)

    def test_the_space_that_commutes_with_all_of_the_commutant(self):
        for ground in GROUNDS:
            for a in squares(ground, self.source):
                if 0 < len(a) < 5:
                    rows = [row for x in commutant(a) for row in equations(x, x)]
                    found = solutions(ground, rows, len(a) ** 2)
                    self.assertEqual(len(found), minimal_polynomial(a).degree())
                    for items in found:
                        rows = [items[k:k + len(a)] for k in range(0, len(items), len(a))]
                        self.assertIsNotNone(polynomial_of(a, Matrix(ground, rows)))


class MisfitTest(unittest.TestCase):
    def assertMisfit(self, function, *arguments):
        with self.assertRaises(Malformed):
            function(*arguments)

    def test_not_square(self):
        for ground in GROUNDS:
            for a in not_square(ground):
                for function in (commutant, commutant_dimension, is_cyclic):
                    self.assertMisfit(function, a)
                for b in (a, Matrix(ground, ()), unit(ground, min(len(a), 8)), unit(ground, min(a.width, 8))):
                    for function in (intertwiners, intertwiner_dimension, commute, polynomial_of):
                        self.assertMisfit(function, a, b)
                        self.assertMisfit(function, b, a)

    def test_unlike_grounds(self):
        for one, other in unlike_grounds():
            for m, n in ((0, 0), (1, 1), (3, 3), (1, 2), (0, 2)):
                for function in (intertwiners, intertwiner_dimension, commute, polynomial_of):
                    self.assertMisfit(function, unit(one, m), unit(other, n))

    def test_unlike_sizes(self):
        for ground in GROUNDS:
            for m, n in ((0, 1), (1, 0), (2, 3), (3, 2), (8, 1), (0, 8)):
                for function in (commute, polynomial_of):
                    self.assertMisfit(function, unit(ground, m), unit(ground, n))
                self.assertEqual(len(intertwiners(unit(ground, m), unit(ground, n))), m * n)
