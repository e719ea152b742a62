"""Points 5.2 and 5.4."""

import random
import unittest
from itertools import product

from similarforms.cyclic import characteristic_polynomial
from similarforms.errors import Malformed
from similarforms.form import frobenius_change, frobenius_form, invariant_factors
from similarforms.ground import Ground
from similarforms.matrix import Matrix, companion, diagonal, nothing, unit
from similarforms.minimal import minimal_polynomial
from similarforms.poly import Poly
from tests.samples import bases, chained, in_another_basis, not_square, of_chain, squares
from tests.values import GROUNDS


def all_squares(p, n):
    rows = list(product(range(p), repeat=n))
    return [Matrix(Ground(p), chosen, n) for chosen in product(rows, repeat=n)]


class FormTest(unittest.TestCase):
    def setUp(self):
        self.source = random.Random(63)

    def assertFactors(self, a, factors):
        self.assertIs(type(factors), tuple)
        total = Poly(a.ground, (1,))
        for f in factors:
            self.assertIs(type(f), Poly)
            self.assertEqual(f.monic(), f)
            self.assertGreater(f.degree(), 0)
            total = total * f
        for f, g in zip(factors, factors[1:]):
            self.assertTrue((f % g).is_zero())
        self.assertEqual(total, characteristic_polynomial(a))
        self.assertEqual(factors[:1], (minimal_polynomial(a),)[:len(a)])

    def test_invariant_factors(self):
        for ground in GROUNDS:
            for a in squares(ground, self.source):
                self.assertFactors(a, invariant_factors(a))

    def test_frobenius_change(self):
        for ground in GROUNDS:
            for a in squares(ground, self.source):
                answer = frobenius_change(a)
                self.assertIs(type(answer), tuple)
                form, p = answer
                self.assertEqual(form, diagonal(ground, [companion(f) for f in invariant_factors(a)]))
                self.assertEqual(form, frobenius_form(a))
                self.assertEqual((p.ground, len(p), p.width), (ground, len(a), len(a)))
                self.assertEqual(p * a, form * p)
                self.assertEqual(p * a * p.inverse(), form)

    def test_chains_are_found_in_another_basis(self):
        for ground in GROUNDS:
            for chain, a in chained(ground, self.source):
                self.assertEqual(invariant_factors(a), chain)
                self.assertEqual(frobenius_form(a), of_chain(ground, chain))
                self.assertEqual(frobenius_form(frobenius_form(a)), frobenius_form(a))

    def test_told(self):
        for ground in GROUNDS:
            x, y, q = bases(ground)
            empty = Matrix(ground, ())
            self.assertEqual(invariant_factors(empty), ())
            self.assertEqual(frobenius_form(empty), empty)
            self.assertEqual(frobenius_change(empty), (empty, empty))
            for n in range(1, 9):
                self.assertEqual(invariant_factors(unit(ground, n)), (Poly(ground, (-1, 1)),) * n)
                self.assertEqual(frobenius_form(nothing(ground, n, n)), nothing(ground, n, n))
            for parts, told in (((x, y), (x * y,)), ((y, x, x), (x * y, x)), ((x, x * x, y), (x * x * y, x)),
                                ((q, x, y, x), (q * x * y, x)), ((x * y, y * q, q * x), (x * y * q, x * y * q))):
                a = diagonal(ground, [companion(f) for f in parts])
                self.assertEqual(invariant_factors(a), told)
                self.assertEqual(invariant_factors(in_another_basis(a, self.source)), told)
            self.assertEqual(frobenius_form(Matrix(ground, ((1, 2), (3, 4)))), Matrix(ground, ((0, 1), (2, 5))))

    def test_there_are_as_many_forms_as_classes(self):
        for p, n, classes in ((2, 1, 2), (2, 2, 2 ** 2 + 2), (2, 3, 2 ** 3 + 2 ** 2 + 2), (3, 2, 3 ** 2 + 3), (5, 1, 5),
                              (5, 2, 5 ** 2 + 5)):
            forms = {tuple(x.n for row in frobenius_form(a).rows for x in row) for a in all_squares(p, n)}
            self.assertEqual(len(forms), classes)

    def test_not_square(self):
        for ground in GROUNDS:
            for a in not_square(ground):
                for function in (invariant_factors, frobenius_form, frobenius_change):
                    with self.assertRaises(Malformed):
                        function(a)
