"""Point 7.4."""

import random
import unittest

from similarforms.divisor import squarefree_part
from similarforms.errors import Malformed
from similarforms.ground import Ground
from similarforms.matrix import Matrix, companion, diagonal, nothing, unit
from similarforms.minimal import minimal_polynomial
from similarforms.parts import is_nilpotent
from similarforms.poly import Poly
from similarforms.summands import is_semisimple, summand_polynomial, summands
from tests.samples import bases, chained, in_another_basis, not_square, squares
from tests.test_parts import jordan, with_diagonal
from tests.values import GROUNDS


class SummandsTest(unittest.TestCase):
    def setUp(self):
        self.source = random.Random(73)

    def assertSummands(self, a):
        answer = summands(a)
        self.assertIs(type(answer), tuple)
        s, n = answer
        self.assertEqual(s + n, a)
        self.assertEqual(s * n, n * s)
        f = minimal_polynomial(s)
        self.assertEqual(squarefree_part(f), f)
        self.assertIs(is_semisimple(s), True)
        self.assertTrue(n.power(len(a)).is_zero())
        h = summand_polynomial(a)
        self.assertIs(type(h), Poly)
        self.assertLess(h.degree(), minimal_polynomial(a).degree())
        self.assertEqual(a.at(h), s)
        self.assertIs(is_semisimple(a), n.is_zero())
        self.assertIs(is_nilpotent(a), s.is_zero())

    def test_summands(self):
        for ground in GROUNDS:
            for a in squares(ground, self.source):
                self.assertSummands(a)

    def test_told(self):
        for ground in GROUNDS:
            for size in range(1, 9):
                for c in (0, 1, 3):
                    scalar = unit(ground, size).scaled(ground.number(c))
                    block = jordan(ground, c, size)
                    self.assertEqual(summands(block), (scalar, block - scalar))
                    self.assertEqual(summand_polynomial(block), Poly(ground, (c,)))
            told = with_diagonal(ground, (1, 1, 1, 0, 0, 2))
            a = diagonal(ground, (jordan(ground, 1, 3), jordan(ground, 0, 2), jordan(ground, 2, 1)))
            self.assertEqual(summands(a), (told, a - told))
            b = in_another_basis(a, self.source)
            self.assertSummands(b)
            empty = Matrix(ground, ())
            self.assertEqual(summands(empty), (empty, empty))
            self.assertEqual(summand_polynomial(empty), Poly(ground, ()))
            self.assertIs(is_semisimple(empty), True)

    def test_semisimple(self):
        for ground in GROUNDS:
            x, y, q = bases(ground)
            for chain, a in chained(ground, self.source):
                told = not chain or squarefree_part(chain[0]) == chain[0]
                self.assertIs(is_semisimple(a), told)
                if told:
                    self.assertEqual(summands(a), (a, nothing(ground, len(a), len(a))))
                    self.assertEqual(summand_polynomial(a), Poly(ground, (0, 1)) % minimal_polynomial(a))
            for parts, told in (((x, y, q), True), ((x, x), True), ((x * x,), False), ((q * q,), False),
                                ((q, q, x), True), ((y * y, x), False)):
                self.assertIs(is_semisimple(diagonal(ground, [companion(f) for f in parts])), told)

    def test_blocks_of_a_quadratic_polynomial(self):
        for ground in GROUNDS:
            c = companion(bases(ground)[2])
            for many in (2, 3, 4):
                size = 2 * many
                s = diagonal(ground, (c,) * many)
                shift = [[int(i == k + 2) for i in range(size)] for k in range(size)]
                n = Matrix(ground, shift)
                self.assertEqual(s * n, n * s)
                self.assertEqual(summands(s + n), (s, n))

    def test_minimal_polynomials_whose_derivative_is_zero(self):
        for p, rows in ((2, ((1, 0, 1), (1, 0, 1, 0, 1), (0, 0, 1, 0, 0, 0, 1), (0, 0, 0, 0, 0, 0, 0, 0, 1),
                             (1, 0, 0, 0, 1), (1, 0, 1, 0, 1, 0, 1, 0, 1))),
                        (3, ((1, 0, 0, 1), (1, 0, 0, 0, 0, 0, 1), (2, 0, 0, 1, 0, 0, 1))),
                        (5, ((1, 0, 0, 0, 0, 1), (0, 0, 0, 0, 0, 1)))):
            for row in rows:
                f = Poly(Ground(p), row)
                self.assertTrue(f.derivative().is_zero())
                a = companion(f)
                self.assertIs(is_semisimple(a), False)
                self.assertSummands(a)
                self.assertSummands(in_another_basis(a, self.source))
        a = companion(Poly(Ground(5), (1, 0, 0, 0, 0, 1)))
        self.assertEqual(summands(a)[0], -unit(Ground(5), 5))
        self.assertEqual(summand_polynomial(a), Poly(Ground(5), (-1,)))

    def test_not_square(self):
        for ground in GROUNDS:
            for a in not_square(ground):
                for function in (is_semisimple, summands, summand_polynomial):
                    with self.assertRaises(Malformed):
                        function(a)
