"""Points 4.1 to 4.3 and 4.6."""

import random
import unittest
from itertools import product

from similarforms.divisor import common_multiple
from similarforms.errors import Malformed
from similarforms.ground import Ground
from similarforms.linear import rank, reduced, same_span, span_holds
from similarforms.matrix import Matrix, companion, diagonal, nothing, unit
from similarforms.minimal import (annihilator, is_invariant, joined_row, krylov, krylov_space, maximal_vector,
                                  minimal_polynomial)
from similarforms.poly import Poly
from tests.samples import (bases, chained, in_another_basis, not_square, rows_that_do_not_fit, some_vectors, squares,
                           unlike_grounds)
from tests.values import GROUNDS, every_value, some_matrix, some_row


def told_images(a, v, count):
    """Return the first rows of v, v A, v A^2, .., each one from the definition of the product."""
    rows = [tuple(v)] * min(count, 1)
    while len(rows) < count:
        rows.append(tuple(total(a.ground, [x * row[k] for x, row in zip(rows[-1], a.rows)]) for k in range(len(a))))
    return rows


def total(ground, numbers):
    found = ground.zero()
    for x in numbers:
        found = found + x
    return found


def flat(a):
    return [item for row in a.rows for item in row]


def all_monics(ground, most):
    return [Poly(ground, (*row, 1)) for degree in range(most + 1) for row in product(range(ground.p), repeat=degree)]


class Base(unittest.TestCase):
    def setUp(self):
        self.source = random.Random(61)

    def assertAnnihilates(self, a, v, f):
        """Check the definition: f is monic, takes the row to 0, and no combination of lower powers does."""
        zeros = (a.ground.zero(),) * len(a)
        self.assertIs(type(f), Poly)
        self.assertEqual((f.ground, f.monic()), (a.ground, f))
        self.assertGreaterEqual(f.degree(), 0)
        self.assertEqual(a.at(f).before(v), zeros)
        self.assertEqual(rank(Matrix(a.ground, told_images(a, v, f.degree()), len(a))), f.degree())


class RowTest(Base):
    def test_annihilator(self):
        for ground in GROUNDS:
            for a in squares(ground, self.source):
                for v in some_vectors(ground, len(a), self.source):
                    f = annihilator(a, v)
                    self.assertAnnihilates(a, v, f)
                    self.assertEqual(annihilator(a, list(v)), f)
                    self.assertIs(f == Poly(ground, (1,)), all(x.is_zero() for x in v))

    def test_annihilator_by_trying_all_polynomials(self):
        for p, n in ((2, 3), (3, 2)):
            ground = Ground(p)
            monics = all_monics(ground, n)
            for _ in range(15):
                a = some_matrix(ground, n, n, self.source)
                for v in product(ground.members(), repeat=n):
                    self.assertEqual(annihilator(a, v), next(f for f in monics if not any(
                        x.n for x in a.at(f).before(v))))

    def test_annihilator_told(self):
        for ground in GROUNDS:
            one, zero = ground.one(), ground.zero()
            f = Poly(ground, (1, 2, 0, -1, 1))
            self.assertEqual(annihilator(companion(f), (one, zero, zero, zero)), f)
            turn = Matrix(ground, ((0, 1), (-1, 0)))
            self.assertEqual(annihilator(turn, (one, zero)), Poly(ground, (1, 0, 1)))
            self.assertEqual(annihilator(unit(ground, 2), (zero, one)), Poly(ground, (-1, 1)))
            self.assertEqual(annihilator(turn, (zero, zero)), Poly(ground, (1,)))
            self.assertEqual(annihilator(Matrix(ground, ()), ()), Poly(ground, (1,)))

    def test_krylov(self):
        for ground in GROUNDS:
            for a in squares(ground, self.source):
                for v in some_vectors(ground, len(a), self.source):
                    degree = annihilator(a, v).degree()
                    self.assertEqual(krylov(a, v), Matrix(ground, told_images(a, v, degree), len(a)))
                    self.assertEqual(krylov(a, list(v)), krylov(a, v))
            self.assertEqual(krylov(unit(ground, 3), (ground.zero(),) * 3), Matrix(ground, (), 3))

    def test_joined_row(self):
        for ground in GROUNDS:
            for a in squares(ground, self.source):
                rows = some_vectors(ground, len(a), self.source)
                for one, two in [(self.source.choice(rows), self.source.choice(rows)) for _ in range(6)]:
                    self.assertJoins(a, one, two)

    def assertJoins(self, a, one, two):
        expected = common_multiple(annihilator(a, one), annihilator(a, two))
        row = joined_row(a, one, two)
        self.assertIs(type(row), tuple)
        self.assertAnnihilates(a, row, expected)

    def test_joined_row_of_shared_divisors_with_unlike_exponents(self):
        for ground in GROUNDS:
            x, y, q = bases(ground)
            for f, g in ((x.power(3) * y, x * y.power(2)), (x * x * y * y, x * x * y), (x * y, x.power(4)),
                         (q * x * x, x * q), (x.power(3), x.power(3)), (x * q, y * q), (x, y), (x, x.power(2))):
                a = diagonal(ground, (companion(f), companion(g)))
                one, two = unit(ground, len(a)).rows[0], unit(ground, len(a)).rows[f.degree()]
                self.assertEqual((annihilator(a, one), annihilator(a, two)), (f, g))
                both = tuple(s + t for s, t in zip(one, two))
                for first, second in ((one, two), (two, one), (one, both), (both, two), (list(one), list(two))):
                    self.assertJoins(a, first, second)

    def test_rows_that_are_none(self):
        for ground in GROUNDS:
            for n in (0, 1, 2, 3, 8):
                a, fits = some_matrix(ground, n, n, self.source), (ground.one(),) * n
                for value in rows_that_do_not_fit(ground, n):
                    self.assertNoRow(a, fits, value)
                for value in every_value():
                    is_row = isinstance(value, (list, tuple)) and len(value) == n and all(map(ground.is_member, value))
                    if not is_row:
                        self.assertNoRow(a, fits, value)

    def assertNoRow(self, a, fits, value):
        for attempt in (lambda: annihilator(a, value), lambda: krylov(a, value), lambda: joined_row(a, value, fits),
                        lambda: joined_row(a, fits, value), lambda: joined_row(a, value, value)):
            with self.assertRaises(Malformed):
                attempt()


class MatrixTest(Base):
    def test_minimal_polynomial(self):
        for ground in GROUNDS:
            for a in squares(ground, self.source):
                f = minimal_polynomial(a)
                self.assertIs(type(f), Poly)
                self.assertEqual(f.monic(), f)
                self.assertTrue(a.at(f).is_zero())
                # Independent powers have no combination, so no polynomial of a lower degree, with the value 0.
                powers = [flat(a.power(k)) for k in range(f.degree())]
                self.assertEqual(rank(Matrix(ground, powers, len(a) ** 2)), f.degree())

    def test_minimal_polynomial_of_chains(self):
        for ground in GROUNDS:
            for chain, a in chained(ground, self.source):
                self.assertEqual(minimal_polynomial(a), chain[0] if chain else Poly(ground, (1,)))

    def test_minimal_polynomial_told(self):
        for ground in GROUNDS:
            self.assertEqual(minimal_polynomial(Matrix(ground, ())), Poly(ground, (1,)))
            for n in range(1, 9):
                self.assertEqual(minimal_polynomial(unit(ground, n)), Poly(ground, (-1, 1)))
                self.assertEqual(minimal_polynomial(nothing(ground, n, n)), Poly(ground, (0, 1)))
            x, y, q = bases(ground)
            for parts, told in (((x, y), x * y), ((x * x, x), x * x), ((x, y, q), x * y * q),
                                ((x * y, y * y), x * y * y), ((x * y, y * q, q * x), x * y * q)):
                self.assertEqual(minimal_polynomial(diagonal(ground, [companion(f) for f in parts])), told)

    def test_maximal_vector(self):
        for ground in GROUNDS:
            for a in squares(ground, self.source):
                v = maximal_vector(a)
                self.assertIs(type(v), tuple)
                self.assertAnnihilates(a, v, minimal_polynomial(a))

    def test_maximal_vector_that_no_single_unit_row_is(self):
        for ground in GROUNDS:
            x, y, q = bases(ground)
            for parts in ((x, y), (x * x, x * y, y.power(3)), (y, q, x), (x * y, y * y, x * x), (q, x, x, y)):
                a = diagonal(ground, [companion(f) for f in parts])
                for b in (a, in_another_basis(a, self.source)):
                    self.assertEqual(annihilator(b, maximal_vector(b)), minimal_polynomial(b))

    def test_not_square(self):
        for ground in GROUNDS:
            for a in not_square(ground):
                for length in (len(a), a.width):
                    v, space = (ground.one(),) * length, Matrix(ground, ((1,) * length,))
                    for attempt in (lambda: annihilator(a, v), lambda: minimal_polynomial(a), lambda: maximal_vector(a),
                                    lambda: joined_row(a, v, v), lambda: krylov(a, v), lambda: is_invariant(a, space),
                                    lambda: krylov_space(a, space), lambda: is_invariant(a, Matrix(ground, ())),
                                    lambda: krylov_space(a, Matrix(ground, (), length))):
                        with self.assertRaises(Malformed):
                            attempt()


class SpaceTest(Base):
    def spaces(self, a):
        """Return matrices of the width of `a`, also without rows, with rows of zeros and with dependent rows."""
        ground, n = a.ground, len(a)
        some = [some_matrix(ground, height, n, self.source) for height in (1, 2, 3, 8)]
        v = some_row(ground, n, self.source)
        double = Matrix(ground, [v, tuple(-x for x in v), (ground.zero(),) * n], n)
        return some + [double, krylov(a, v), Matrix(ground, (), n), nothing(ground, 2, n), unit(ground, n)]

    def test_is_invariant(self):
        found = {True: 0, False: 0}
        for ground in GROUNDS:
            for a in squares(ground, self.source):
                for space in self.spaces(a):
                    expected = all(span_holds(space, a.before(row)) for row in space.rows)
                    self.assertIs(is_invariant(a, space), expected)
                    found[expected] += 1
        self.assertGreater(min(found.values()), 100)

    def test_krylov_space(self):
        for ground in GROUNDS:
            for a in squares(ground, self.source):
                for space in self.spaces(a):
                    least = krylov_space(a, space)
                    self.assertEqual((reduced(least)[0], least.ground, least.width), (least, ground, len(a)))
                    self.assertIs(is_invariant(a, least), True)
                    self.assertTrue(all(span_holds(least, row) for row in space.rows))
                    self.assertIsLeast(a, space, least)
                    self.assertIs(is_invariant(a, space), same_span(space, least))

    def assertIsLeast(self, a, space, least):
        """Check that each row is a combination of products of the rows with powers, which each such space holds."""
        grown = Matrix(a.ground, (), len(a))
        for row in [told for row in space.rows for told in told_images(a, row, len(a))]:
            if len(grown) < len(least) and not span_holds(grown, row):
                grown = Matrix(a.ground, grown.rows + (row,), len(a))
        self.assertEqual(len(grown), len(least))
        self.assertTrue(all(span_holds(grown, row) for row in least.rows))

    def test_krylov_space_told(self):
        for ground in GROUNDS:
            shift = companion(Poly(ground, (0, 0, 0, 1)))
            self.assertEqual(krylov_space(shift, Matrix(ground, ((0, -1, 0),))), Matrix(ground, ((0, 1, 0), (0, 0, 1))))
            self.assertEqual(krylov_space(shift, Matrix(ground, ((0, 0, 2), (0, 0, 1)))), Matrix(ground, ((0, 0, 1),)))
            self.assertEqual(krylov_space(shift, Matrix(ground, ((1, 0, 0),))), unit(ground, 3))
            self.assertEqual(krylov_space(shift, nothing(ground, 4, 3)), Matrix(ground, (), 3))
            self.assertEqual(krylov_space(shift, Matrix(ground, (), 3)), Matrix(ground, (), 3))
            self.assertEqual(krylov_space(Matrix(ground, ()), Matrix(ground, [()] * 2)), Matrix(ground, ()))
            self.assertIs(is_invariant(shift, Matrix(ground, ((0, 1, 0), (0, 0, 1)))), True)
            self.assertIs(is_invariant(shift, Matrix(ground, ((1, 0, 0), (0, 0, 1)))), False)
            self.assertIs(is_invariant(shift, nothing(ground, 1, 3)), True)

    def test_rows_that_do_not_fit(self):
        for ground in GROUNDS:
            for n in (0, 1, 2, 8):
                a = some_matrix(ground, n, n, self.source)
                for width in (0, 1, 2, 3, 9, 64):
                    if width != n:
                        self.assertNoSpace(a, nothing(ground, 1, width))
                        self.assertNoSpace(a, nothing(ground, 8, width))
        for one, other in unlike_grounds():
            for n in (1, 2, 8):
                self.assertNoSpace(unit(one, n), unit(other, n))
                self.assertNoSpace(nothing(one, n, n), nothing(other, 1, n))

    def assertNoSpace(self, a, space):
        for function in (is_invariant, krylov_space):
            with self.assertRaises(Malformed):
                function(a, space)

    def test_without_rows_there_is_no_row_that_does_not_fit(self):
        for one in GROUNDS:
            for other in GROUNDS:
                for width in (0, 2, 5):
                    self.assertIs(is_invariant(unit(one, 2), Matrix(other, (), width)), True)
                    self.assertEqual(krylov_space(unit(one, 2), Matrix(other, (), width)), Matrix(one, (), 2))
