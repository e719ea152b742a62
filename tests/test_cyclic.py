"""Points 4.4 and 4.5."""

import random
import unittest

from similarforms.cyclic import characteristic_polynomial, cyclic_parts, restricted, split_off
from similarforms.divisor import squarefree_part
from similarforms.errors import Malformed, Refused
from similarforms.matrix import Matrix, companion, diagonal, nothing, unit
from similarforms.minimal import annihilator, is_invariant, krylov, krylov_space, minimal_polynomial
from similarforms.poly import Poly
from tests.samples import bases, chained, not_square, squares, unlike_grounds
from tests.values import GROUNDS, some_matrix


def told_characteristic(a):
    """Return the determinant of x times the unit matrix less `a`, by minors of its first rows."""
    minors = {0: Poly(a.ground, (1,))}
    for i, row in enumerate(a.rows):
        grown = {}
        for columns, minor in minors.items():
            for k, item in enumerate(row):
                if not columns >> k & 1:
                    entry = Poly(a.ground, (-item, int(i == k)))
                    term = minor * entry if (columns >> k).bit_count() % 2 == 0 else -(minor * entry)
                    key = columns | 1 << k
                    grown[key] = grown[key] + term if key in grown else term
        minors = grown
    return minors[2 ** len(a) - 1]


class Base(unittest.TestCase):
    def setUp(self):
        self.source = random.Random(62)

    def assertBasis(self, rows, ground, n):
        self.assertEqual(len(rows), n)
        self.assertFalse(Matrix(ground, rows, n).determinant().is_zero())

    def assertRefused(self, reason, function, *arguments):
        with self.assertRaises(Refused) as caught:
            function(*arguments)
        self.assertEqual(caught.exception.reason, reason)


class SplitTest(Base):
    def test_split_off(self):
        for ground in GROUNDS:
            for a in squares(ground, self.source):
                if len(a) > 0:
                    answer = split_off(a)
                    self.assertIs(type(answer), tuple)
                    part, rest = answer
                    self.assertEqual(annihilator(a, part.rows[0]), minimal_polynomial(a))
                    self.assertEqual(part, krylov(a, part.rows[0]))
                    self.assertEqual((rest.ground, rest.width), (ground, len(a)))
                    self.assertIs(is_invariant(a, rest), True)
                    self.assertBasis(part.rows + rest.rows, ground, len(a))

    def test_split_off_nothing(self):
        for ground in GROUNDS:
            self.assertRefused("empty", split_off, Matrix(ground, ()))
            for n in range(1, 9):
                part, rest = split_off(unit(ground, n))
                self.assertEqual((len(part), len(rest)), (1, n - 1))
            part, rest = split_off(companion(Poly(ground, (1, 2, 3, 1))))
            self.assertEqual((len(part), rest), (3, Matrix(ground, (), 3)))

    def test_not_square(self):
        for ground in GROUNDS:
            for a in not_square(ground):
                for attempt in (lambda: split_off(a), lambda: cyclic_parts(a), lambda: characteristic_polynomial(a),
                                lambda: restricted(a, unit(ground, len(a))),
                                lambda: restricted(a, Matrix(ground, (), a.width))):
                    with self.assertRaises(Malformed):
                        attempt()


class RestrictedTest(Base):
    def test_restricted(self):
        for ground in GROUNDS:
            for a in squares(ground, self.source):
                n = len(a)
                seeds = [some_matrix(ground, height, n, self.source) for height in (1, 2)]
                spaces = [krylov_space(a, seed) for seed in seeds] + [krylov(a, seeds[0].rows[0])]
                spaces += [unit(ground, n), -unit(ground, n), Matrix(ground, (), n)]
                for space in spaces:
                    b = restricted(a, space)
                    self.assertEqual((b.ground, len(b), b.width), (ground, len(space), len(space)))
                    self.assertEqual(space * a, b * space)

    def test_restricted_told(self):
        for ground in GROUNDS:
            x, y, q = bases(ground)
            a = diagonal(ground, (companion(x * y), companion(q)))
            low = Matrix(ground, ((0, 0, 1, 0), (0, 0, 0, 1)))
            self.assertEqual(restricted(a, low), companion(q))
            self.assertEqual(restricted(a, unit(ground, 4)), a)
            self.assertEqual(restricted(a, Matrix(ground, (), 4)), Matrix(ground, ()))
            told = restricted(Matrix(ground, ((1, 2), (0, 3))), Matrix(ground, ((0, -1),)))
            self.assertEqual(told, Matrix(ground, ((3,),)))

    def test_errors_in_their_order(self):
        for ground in GROUNDS:
            turn = companion(Poly(ground, (0, 0, 1)))
            dependent = Matrix(ground, ((0, 1), (0, 1)))
            for space in (dependent, nothing(ground, 1, 2), Matrix(ground, ((0, 0), (0, 1))), nothing(ground, 8, 2),
                          Matrix(ground, ((1, 0), (0, 1), (1, 1)))):
                with self.assertRaises(Malformed):
                    restricted(turn, space)
            for rows in (((1, 0),), ((1, 0), (1, 0)), ((0, 0), (1, 0)), ((1, 1), (0, 0), (1, 1))):
                space = Matrix(ground, rows)
                self.assertRefused("invariant", restricted, turn, space)
            for n in (0, 1, 2, 8):
                for width in (0, 1, 2, 3, 64):
                    if width != n:
                        with self.assertRaises(Malformed):
                            restricted(unit(ground, n), nothing(ground, 1, width))
            # A matrix that is not square comes before a space that would not be invariant.
            with self.assertRaises(Malformed):
                restricted(Matrix(ground, ((0, 1),)), Matrix(ground, ((1,),)))

    def test_unlike_grounds(self):
        for one, other in unlike_grounds():
            for n in (1, 2, 8):
                with self.assertRaises(Malformed):
                    restricted(unit(one, n), unit(other, n))


class PartsTest(Base):
    def assertParts(self, a, parts):
        self.assertIs(type(parts), tuple)
        self.assertBasis([row for part in parts for row in part.rows], a.ground, len(a))
        before = None
        for part in parts:
            self.assertGreater(len(part), 0)
            self.assertEqual(part, krylov(a, part.rows[0]))
            f = annihilator(a, part.rows[0])
            self.assertTrue((minimal_polynomial(a) if before is None else before) % f == Poly(a.ground, ()))
            before = f

    def test_cyclic_parts(self):
        for ground in GROUNDS:
            for a in squares(ground, self.source):
                self.assertParts(a, cyclic_parts(a))
            self.assertEqual(cyclic_parts(Matrix(ground, ())), ())

    def test_cyclic_parts_of_chains(self):
        for ground in GROUNDS:
            for chain, a in chained(ground, self.source):
                self.assertEqual(tuple(annihilator(a, part.rows[0]) for part in cyclic_parts(a)), chain)

    def test_characteristic_polynomial(self):
        for ground in GROUNDS:
            for a in squares(ground, self.source):
                f = characteristic_polynomial(a)
                self.assertEqual((f.degree(), f.monic()), (len(a), f))
                for number in (0, 1, -1, 2, 5, 17):
                    c = ground.number(number)
                    self.assertEqual(f(c), (unit(ground, len(a)).scaled(c) - a).determinant())

    def test_characteristic_polynomial_by_minors(self):
        for ground in GROUNDS:
            for a in squares(ground, self.source):
                if len(a) < 6:
                    self.assertEqual(characteristic_polynomial(a), told_characteristic(a))
            a = some_matrix(ground, 8, 8, self.source)
            self.assertEqual(characteristic_polynomial(a), told_characteristic(a))

    def test_characteristic_polynomial_told(self):
        for ground in GROUNDS:
            self.assertEqual(characteristic_polynomial(Matrix(ground, ())), Poly(ground, (1,)))
            self.assertEqual(characteristic_polynomial(Matrix(ground, ((1, 2), (3, 4)))), Poly(ground, (-2, -5, 1)))
            for n in range(1, 9):
                self.assertEqual(characteristic_polynomial(unit(ground, n)), Poly(ground, (-1, 1)).power(n))

    def test_the_minimal_polynomial_divides_it_and_has_its_irreducible_divisors(self):
        for ground in GROUNDS:
            for a in squares(ground, self.source):
                f, g = characteristic_polynomial(a), minimal_polynomial(a)
                self.assertTrue((f % g).is_zero())
                self.assertEqual(squarefree_part(f), squarefree_part(g))
                self.assertTrue(a.at(f).is_zero())
