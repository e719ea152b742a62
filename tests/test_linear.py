"""Points 3.2 and 3.3."""

import random
import unittest
from itertools import product

from similarforms.errors import Malformed
from similarforms.ground import Ground
from similarforms.linear import kernel, rank, reduced, same_span, solve, span_holds
from similarforms.matrix import Matrix, nothing, unit
from similarforms.ratio import Ratio
from tests.values import GROUNDS, some_matrix, some_row

SIZES = ((0, 0), (0, 4), (3, 0), (1, 1), (1, 5), (4, 1), (2, 3), (3, 3), (5, 4), (8, 8), (8, 64), (8, 20))


def rows_over(ground, length):
    return product(ground.members(), repeat=length)


def span_of(m):
    """Return all rows of the span as tuples of integers, for a matrix modulo a small prime."""
    return {tuple(x.n for x in m.before(v)) for v in rows_over(m.ground, len(m))}


def some_with_equal_rows(ground, height, width, source):
    """Return a matrix of a low rank: some of its rows are equal, zero, or sums of others."""
    rows = [some_row(ground, width, source) for _ in range(2)] + [(ground.zero(),) * width]
    rows.append(tuple(x + y for x, y in zip(rows[0], rows[1])))
    return Matrix(ground, [source.choice(rows) for _ in range(height)], width)


def matrices(ground, source):
    for height, width in SIZES:
        yield nothing(ground, height, width)
        yield Matrix(ground, [(1,) * width] * height, width)
        for _ in range(3):
            yield some_matrix(ground, height, width, source)
            yield some_with_equal_rows(ground, height, width, source)


class LinearTest(unittest.TestCase):
    def setUp(self):
        self.source = random.Random(51)

    def assertReduced(self, r, pivots):
        one, zero = r.ground.one(), r.ground.zero()
        self.assertIs(type(r), Matrix)
        self.assertIs(type(pivots), tuple)
        self.assertEqual(len(pivots), len(r))
        self.assertEqual(list(pivots), sorted(set(pivots)))
        for k, pivot in enumerate(pivots):
            self.assertIs(type(pivot), int)
            self.assertEqual(r.rows[k][:pivot], (zero,) * pivot)
            self.assertEqual([row[pivot] for row in r.rows], [one if i == k else zero for i in range(len(r))])

    def test_reduced(self):
        for ground in GROUNDS:
            for m in matrices(ground, self.source):
                answer = reduced(m)
                self.assertIs(type(answer), tuple)
                r, pivots = answer
                self.assertReduced(r, pivots)
                self.assertEqual((r.ground, r.width), (ground, m.width))
                self.assertTrue(all(span_holds(m, row) for row in r.rows))
                self.assertTrue(all(span_holds(r, row) for row in m.rows))
                self.assertEqual(reduced(r), (r, pivots))
                self.assertEqual(rank(m), len(r))

    def test_reduced_told(self):
        r, pivots = reduced(Matrix(Ground(), ((0, 2, 4, 1), (0, 1, 2, 0), (0, 3, 6, 1))))
        self.assertEqual(r, Matrix(Ground(), ((0, 1, 2, 0), (0, 0, 0, 1))))
        self.assertEqual(pivots, (1, 3))
        r, pivots = reduced(Matrix(Ground(5), ((2, 1), (4, 3))))
        self.assertEqual((r, pivots), (unit(Ground(5), 2), (0, 1)))
        self.assertEqual(reduced(Matrix(Ground(), (), 3)), (Matrix(Ground(), (), 3), ()))
        self.assertEqual(reduced(nothing(Ground(2), 3, 2)), (Matrix(Ground(2), (), 2), ()))

    def test_the_span_is_that_of_the_rows(self):
        for p in (2, 3):
            ground = Ground(p)
            for height, width in ((0, 0), (0, 2), (2, 0), (1, 3), (3, 2), (4, 4)):
                for _ in range(8):
                    m = some_matrix(ground, height, width, self.source)
                    self.assertEqual(span_of(reduced(m)[0]), span_of(m))
                    self.assertEqual(len(span_of(m)), p ** rank(m))

    def test_one_span_has_one_reduced_matrix(self):
        found = {}
        for rows in product(product(range(2), repeat=3), repeat=2):
            m = Matrix(Ground(2), rows)
            self.assertEqual(found.setdefault(tuple(sorted(span_of(m))), reduced(m)), reduced(m))

    def test_rank(self):
        for ground in GROUNDS:
            for n in range(9):
                self.assertEqual(rank(unit(ground, n)), n)
                self.assertEqual(rank(nothing(ground, n, 3)), 0)
                self.assertEqual(rank(Matrix(ground, [(0, 1, 1)] * n, 3)), min(n, 1))
                self.assertEqual(rank(nothing(ground, n, 0)), 0)
            for _ in range(20):
                a = some_matrix(ground, 5, 2, self.source) * some_matrix(ground, 2, 6, self.source)
                self.assertLessEqual(rank(a), 2)
                b = some_matrix(ground, 5, 6, self.source)
                self.assertEqual(rank(b), rank(b.transposed()))

    def test_kernel(self):
        for ground in GROUNDS:
            for m in matrices(ground, self.source):
                k = kernel(m)
                self.assertEqual((k.ground, k.width), (ground, len(m)))
                self.assertEqual(reduced(k)[0], k)
                self.assertEqual(len(k), len(m) - rank(m))
                for row in k.rows:
                    self.assertEqual(m.before(row), (ground.zero(),) * m.width)

    def test_kernel_is_all_of_it(self):
        for p in (2, 3):
            ground = Ground(p)
            for height, width in ((0, 0), (0, 2), (2, 0), (3, 2), (4, 3), (2, 4)):
                for _ in range(6):
                    m = some_with_equal_rows(ground, height, width, self.source)
                    told = {tuple(x.n for x in v) for v in rows_over(ground, height)
                            if all(x.is_zero() for x in m.before(v))}
                    self.assertEqual(span_of(kernel(m)), told)

    def test_kernel_told(self):
        self.assertEqual(kernel(Matrix(Ground(), ((1, 2), (2, 4), (0, 1)))), Matrix(Ground(), ((1, Ratio(-1, 2), 0),)))
        self.assertEqual(kernel(nothing(Ground(3), 4, 0)), unit(Ground(3), 4))
        self.assertEqual(kernel(nothing(Ground(3), 4, 2)), unit(Ground(3), 4))
        self.assertEqual(kernel(nothing(Ground(3), 0, 5)), Matrix(Ground(3), (), 0))
        self.assertEqual(kernel(Matrix(Ground(2), [(1, 1)] * 3)), Matrix(Ground(2), ((1, 0, 1), (0, 1, 1))))
        self.assertEqual(kernel(unit(Ground(31), 8)), Matrix(Ground(31), (), 8))

    def test_solve_what_can_be_solved(self):
        for ground in GROUNDS:
            for m in matrices(ground, self.source):
                w = m.before(some_row(ground, len(m), self.source))
                for side in (w, (ground.zero(),) * m.width):
                    v = solve(m, side)
                    self.assertIs(type(v), tuple)
                    self.assertEqual(len(v), len(m))
                    self.assertTrue(all(ground.is_member(x) for x in v))
                    self.assertEqual(m.before(v), side)
                    self.assertIs(span_holds(m, side), True)

    def test_solve_by_trying_all_rows(self):
        for p in (2, 3):
            ground = Ground(p)
            for height, width in ((0, 0), (0, 2), (2, 0), (2, 3), (3, 2), (3, 3)):
                for _ in range(4):
                    m = some_with_equal_rows(ground, height, width, self.source)
                    span = span_of(m)
                    for w in rows_over(ground, width):
                        holds = tuple(x.n for x in w) in span
                        self.assertIs(span_holds(m, w), holds)
                        v = solve(m, w)
                        if holds:
                            self.assertEqual(m.before(v), w)
                        else:
                            self.assertIsNone(v)

    def test_solve_what_cannot_be_solved(self):
        for ground in GROUNDS:
            one, zero = ground.one(), ground.zero()
            for m in (Matrix(ground, (), 2), nothing(ground, 3, 2), Matrix(ground, ((1, 0), (1, 0))),
                      Matrix(ground, ((-1, 0),))):
                for w in ((zero, one), (one, one)):
                    self.assertIsNone(solve(m, w))
                    self.assertIs(span_holds(m, w), False)

    def test_no_rows_and_no_width(self):
        for ground in GROUNDS:
            self.assertEqual(solve(Matrix(ground, (), 2), (ground.zero(),) * 2), ())
            self.assertEqual(solve(Matrix(ground, ()), ()), ())
            v = solve(nothing(ground, 3, 0), ())
            self.assertEqual(len(v), 3)
            self.assertIs(span_holds(Matrix(ground, ()), ()), True)
            self.assertIs(span_holds(nothing(ground, 3, 0), ()), True)

    def test_another_length(self):
        for ground in GROUNDS:
            for m in (Matrix(ground, ()), Matrix(ground, (), 3), nothing(ground, 3, 0), unit(ground, 2),
                      nothing(ground, 8, 64)):
                for length in (0, 1, 2, 3, 8, 63, 65):
                    if length != m.width:
                        for function in (solve, span_holds):
                            with self.assertRaises(Malformed):
                                function(m, (ground.zero(),) * length)

    def test_same_span(self):
        for ground in GROUNDS:
            for m in matrices(ground, self.source):
                self.assertIs(same_span(m, m), True)
                self.assertIs(same_span(m, reduced(m)[0]), True)
                self.assertIs(same_span(m, Matrix(ground, m.rows[::-1], m.width)), True)
                self.assertIs(same_span(m, -m), True)
                self.assertIs(same_span(m, nothing(ground, 1, m.width)), rank(m) == 0)
            self.assertIs(same_span(Matrix(ground, ((1, 1),) * 3), Matrix(ground, ((-1, -1),))), True)
            self.assertIs(same_span(Matrix(ground, ((1, 1),)), Matrix(ground, ((1, 0),))), False)
            self.assertIs(same_span(Matrix(ground, ((1, 1),)), unit(ground, 2)), False)

    def test_same_span_of_unlike_grounds_and_widths(self):
        for one in GROUNDS:
            for other in GROUNDS:
                for height, width in ((0, 0), (0, 2), (2, 2), (3, 0)):
                    same = same_span(nothing(one, height, width), nothing(other, height, width))
                    self.assertIs(same, one == other)
                self.assertIs(same_span(unit(one, 2), unit(other, 2)), one == other)
            for width in (1, 2, 64):
                self.assertIs(same_span(Matrix(one, ()), Matrix(one, (), width)), False)
                self.assertIs(same_span(nothing(one, 3, width), nothing(one, 3, 3)), False)

    def test_same_span_by_all_rows(self):
        for ground in (Ground(2), Ground(3)):
            rows = [some_with_equal_rows(ground, self.source.randint(0, 3), 2, self.source) for _ in range(25)]
            for a in rows:
                for b in rows:
                    self.assertIs(same_span(a, b), span_of(a) == span_of(b))
