"""Points 7.1 to 7.3."""

import random
import unittest
from fractions import Fraction

from similarforms.cyclic import characteristic_polynomial, restricted
from similarforms.errors import Malformed, Refused
from similarforms.ground import Ground
from similarforms.linear import rank, reduced, span_holds
from similarforms.matrix import Matrix, companion, diagonal, nothing, unit
from similarforms.minimal import is_invariant, minimal_polynomial
from similarforms.parts import eigenvalues, fitting, is_nilpotent, jordan_sizes, kernel_part, projections
from similarforms.poly import Poly
from similarforms.ratio import Ratio
from similarforms.residue import Residue
from tests.samples import bases, in_another_basis, not_square, of_chain, squares, unlike_grounds
from tests.values import GROUNDS, every_value, fraction, some_poly


class Base(unittest.TestCase):
    def setUp(self):
        self.source = random.Random(72)

    def assertRefused(self, reason, function, *arguments):
        with self.assertRaises(Refused) as caught:
            function(*arguments)
        self.assertEqual(caught.exception.reason, reason)

    def assertMisfit(self, function, *arguments):
        with self.assertRaises(Malformed):
            function(*arguments)

    def assertReduced(self, m):
        self.assertIs(type(m), Matrix)
        self.assertEqual(reduced(m)[0], m)

    def coprime_powers(self, a):
        """Return powers of x, x + 1 and a quadratic polynomial, and the rest of the minimal polynomial of `a`."""
        f, found = minimal_polynomial(a), []
        for g in bases(a.ground):
            power = Poly(a.ground, (1,))
            while (f % g).is_zero():
                f, power = f // g, power * g
            found.append(power)
        return found + [f]


class KernelTest(Base):
    def test_kernel_part(self):
        for ground in GROUNDS:
            x, y, q = bases(ground)
            for a in squares(ground, self.source):
                for f in (x, y, q, x * y, x * x, Poly(ground, ()), Poly(ground, (-1,)), minimal_polynomial(a),
                          some_poly(ground, 4, self.source)):
                    part = kernel_part(a, f)
                    self.assertReduced(part)
                    self.assertEqual((part.ground, part.width), (ground, len(a)))
                    self.assertEqual(len(part), len(a) - rank(a.at(f)))
                    self.assertTrue((part * a.at(f)).is_zero())
                    self.assertIs(is_invariant(a, part), True)

    def test_kernel_part_told(self):
        for ground in GROUNDS:
            x, y, q = bases(ground)
            a = of_chain(ground, (x * x, y, x))
            self.assertEqual(kernel_part(a, x), Matrix(ground, ((0, 1, 0, 0), (0, 0, 0, 1))))
            self.assertEqual(kernel_part(a, x * x), Matrix(ground, ((1, 0, 0, 0), (0, 1, 0, 0), (0, 0, 0, 1))))
            self.assertEqual(kernel_part(a, y), Matrix(ground, ((0, 0, 1, 0),)))
            self.assertEqual(kernel_part(a, q), Matrix(ground, (), 4))
            self.assertEqual(kernel_part(a, Poly(ground, ())), unit(ground, 4))
            self.assertEqual(kernel_part(Matrix(ground, ()), x), Matrix(ground, ()))

    def test_misfits(self):
        for ground in GROUNDS:
            for a in not_square(ground):
                for row in ((), (1,), (0, 1)):
                    self.assertMisfit(kernel_part, a, Poly(ground, row))
        for one, other in unlike_grounds():
            for n in (0, 1, 3):
                for row in ((), (1,), (0, 1)):
                    self.assertMisfit(kernel_part, unit(one, n), Poly(other, row))


class ProjectionsTest(Base):
    def assertProjects(self, a, factors):
        found = projections(a, factors)
        self.assertIs(type(found), tuple)
        self.assertEqual(len(found), len(factors))
        total = nothing(a.ground, len(a), len(a))
        for i, e in enumerate(found):
            total = total + e
            part = kernel_part(a, factors[i])
            self.assertTrue(all(span_holds(part, row) for row in e.rows))
            self.assertEqual(part * e, part)
            self.assertEqual(e * a, a * e)
            for k, other in enumerate(found):
                self.assertEqual(e * other, e if i == k else nothing(a.ground, len(a), len(a)))
        self.assertEqual(total, unit(a.ground, len(a)))

    def test_projections(self):
        for ground in GROUNDS:
            for a in squares(ground, self.source):
                powers = self.coprime_powers(a)
                self.assertProjects(a, powers)
                self.assertProjects(a, tuple(powers[::-1]))
                self.assertProjects(a, [minimal_polynomial(a)])
                self.assertProjects(a, (characteristic_polynomial(a).scaled(ground.number(-1)),))

    def test_constants_and_zero(self):
        for ground in GROUNDS:
            x, y, q = bases(ground)
            one, minus, zero = Poly(ground, (1,)), Poly(ground, (-1,)), Poly(ground, ())
            a = in_another_basis(of_chain(ground, (x * y, x)), self.source)
            for factors in ((zero,), (zero, minus), [minus, zero, one], (x, one, y, minus), (x, y, q),
                            (x * x, q, y * y), (x.scaled(ground.number(-1)), y)):
                self.assertProjects(a, factors)

    def test_told(self):
        for ground in GROUNDS:
            x, y, q = bases(ground)
            a = of_chain(ground, (x, y, x))
            self.assertEqual(projections(a, (y, x)), (Matrix(ground, ((0, 0, 0), (0, 1, 0), (0, 0, 0))),
                                                      Matrix(ground, ((1, 0, 0), (0, 0, 0), (0, 0, 1)))))

    def test_no_factors(self):
        for ground in GROUNDS:
            for factors in ((), []):
                self.assertEqual(projections(Matrix(ground, ()), factors), ())
                for n in (1, 2, 8):
                    self.assertRefused("product", projections, nothing(ground, n, n), factors)
            for factors in ([Poly(ground, (1,))], (Poly(ground, (0, 1)), Poly(ground, (1, 1)))):
                self.assertEqual(projections(Matrix(ground, ()), factors), (Matrix(ground, ()),) * len(factors))

    def test_coprime_before_product(self):
        for ground in GROUNDS:
            x, y, q = bases(ground)
            zero, one = Poly(ground, ()), Poly(ground, (1,))
            for a in (of_chain(ground, (x * y,)), of_chain(ground, (q,)), nothing(ground, 1, 1), Matrix(ground, ())):
                for factors in ((x, x), (x, y, x), [x * y, q, y], (x, x * y), (zero, zero), (x, zero), (q, y, q * q),
                                [x, one, x]):
                    self.assertRefused("coprime", projections, a, factors)
            a = of_chain(ground, (x * x * y, x))
            for factors in ((x, y), (x * x,), (y,), (q, y), (one,), (one, one)):
                self.assertRefused("product", projections, a, factors)

    def test_malformed_first(self):
        for ground in GROUNDS:
            x, y, q = bases(ground)
            for a in not_square(ground):
                for factors in ((), (x, y), (x, x), [Poly(ground, (1,))]):
                    self.assertMisfit(projections, a, factors)
        for one, other in unlike_grounds():
            f, g = Poly(one, (0, 1)), Poly(other, (0, 1))
            for factors in ((g,), (f, g), (g, f), [f, f, g], (Poly(other, (1,)),), (g, g)):
                for n in (0, 1, 2):
                    self.assertMisfit(projections, unit(one, n), factors)


class FittingTest(Base):
    def test_fitting(self):
        for ground in GROUNDS:
            for a in squares(ground, self.source):
                answer = fitting(a)
                self.assertIs(type(answer), tuple)
                image, kernel = answer
                power = a.power(len(a))
                self.assertReduced(image)
                self.assertReduced(kernel)
                self.assertEqual(image, reduced(power)[0])
                self.assertTrue((kernel * power).is_zero())
                self.assertEqual(rank(Matrix(ground, image.rows + kernel.rows, len(a))), len(a))
                self.assertEqual(len(image) + len(kernel), len(a))
                self.assertFalse(restricted(a, image).determinant().is_zero())
                self.assertIs(is_nilpotent(restricted(a, kernel)), True)

    def test_told(self):
        for ground in GROUNDS:
            x, y, q = bases(ground)
            none = Matrix(ground, ())
            self.assertEqual(fitting(none), (none, none))
            for n in range(1, 9):
                empty = Matrix(ground, (), n)
                self.assertEqual(fitting(unit(ground, n)), (unit(ground, n), empty))
                self.assertEqual(fitting(companion(x.power(n))), (empty, unit(ground, n)))
            a = diagonal(ground, (companion(x * x), companion(y)))
            self.assertEqual(fitting(a), (Matrix(ground, ((0, 0, 1),)), Matrix(ground, ((1, 0, 0), (0, 1, 0)))))

    def test_is_nilpotent(self):
        for ground in GROUNDS:
            x, y, q = bases(ground)
            self.assertIs(is_nilpotent(Matrix(ground, ())), True)
            for a in squares(ground, self.source):
                self.assertIs(is_nilpotent(a), characteristic_polynomial(a) == x.power(len(a)))
            for n in range(1, 9):
                self.assertIs(is_nilpotent(companion(x.power(n))), True)
                self.assertIs(is_nilpotent(unit(ground, n)), False)
                self.assertIs(is_nilpotent(nothing(ground, n, n)), True)
                self.assertIs(is_nilpotent(in_another_basis(companion(x.power(n)), self.source)), True)
                self.assertIs(is_nilpotent(companion(x.power(n - 1) * y)), False)

    def test_not_square(self):
        for ground in GROUNDS:
            for a in not_square(ground):
                self.assertMisfit(fitting, a)
                self.assertMisfit(is_nilpotent, a)


def with_diagonal(ground, items):
    return diagonal(ground, [Matrix(ground, ((item,),)) for item in items])


class EigenvaluesTest(Base):
    def test_modulo_p(self):
        for ground in GROUNDS[1:]:
            for a in squares(ground, self.source):
                told = [c for c in ground.members() if rank(a - unit(ground, len(a)).scaled(c)) < len(a)]
                self.assertEqual(eigenvalues(a), tuple(told))
            self.assertEqual(eigenvalues(with_diagonal(ground, (1, 0, -1, 1))), tuple(map(ground.number, sorted(
                {0, 1, ground.p - 1}))))
        self.assertEqual(eigenvalues(with_diagonal(Ground(31), (30, 2, 10, 9, 2))),
                         tuple(Residue(31, n) for n in (2, 9, 10, 30)))

    def test_rationals(self):
        ground = Ground()
        for items in ((0,), (1,), (-1, 1), (3, -3, 0, 3), (Ratio(1, 2), Ratio(-1, 2), Ratio(1, 3), 0, -1),
                      (Ratio(-7, 6), Ratio(5, 12), Ratio(5, 12), 2, Ratio(-7, 6), 0, 0), (12, 2, 10, 9, 1, -2, -10),
                      (1000000,), (Ratio(1, 1000000),), (Ratio(-999, 1000), Ratio(1000, 999)), (720720, -1)):
            told = sorted({fraction(x) if isinstance(x, Ratio) else Fraction(x) for x in items})
            a = with_diagonal(ground, items)
            for b in (a, in_another_basis(a, self.source)):
                found = eigenvalues(b)
                self.assertIs(type(found), tuple)
                self.assertTrue(all(type(x) is Ratio for x in found))
                self.assertEqual([fraction(x) for x in found], told)

    def test_rationals_beside_other_divisors(self):
        ground = Ground()
        third = Poly(ground, (-2, 0, 0, 1))
        quadratic = Poly(ground, (1, 0, 1))
        for f, told in ((quadratic, ()), (third, ()), (third * quadratic, ()), (Poly(ground, (-2, 0, 1)), ()),
                        (third * Poly(ground, (0, 1)), (0,)), (quadratic * Poly(ground, (6, 5, 1)), (-3, -2)),
                        (third * Poly(ground, (0, 0, -3, 1)), (0, 3)), (Poly(ground, (3, 1)).power(4), (-3,)),
                        (Poly(ground, (2, 10 ** 30, 1)), ())):
            for a in (companion(f), in_another_basis(companion(f), self.source)):
                self.assertEqual(eigenvalues(a), tuple(map(Ratio, told)))

    def test_every_eigenvalue_has_a_kernel(self):
        ground = Ground()
        found = 0
        for a in squares(ground, self.source):
            try:
                numbers = eigenvalues(a)
            except Refused:
                continue
            self.assertEqual([fraction(x) for x in numbers], sorted({fraction(x) for x in numbers}))
            for c in numbers:
                self.assertTrue((a - unit(ground, len(a)).scaled(c)).determinant().is_zero())
            tried = [Ratio(n, d) for n in range(-6, 7) for d in (1, 2, 3)]
            for c in tried:
                if (a - unit(ground, len(a)).scaled(c)).determinant().is_zero():
                    self.assertIn(c, numbers)
            found += len(numbers)
        self.assertGreater(found, 40)

    def test_large(self):
        ground = Ground()
        x = Poly(ground, (0, 1))
        most = 1000000
        taken = ((-most, 1), (most, 1), (5, most), (most, 7, most), (-most, 10 ** 40, -most), (2 * most, 0, 2),
                 (most, 10 ** 9, most - 1), (1, Ratio(1, most // 2), Ratio(1, most)), (3 * most, 6, 3 * most))
        refused = ((most + 1, 1), (-most - 1, 1), (1, most + 1), (1, 0, -most - 1), (most + 1, 1, most + 1),
                   (10 ** 60, 1), (1, 10 ** 60), (2 * most, 1, 2), (2 * most + 2, 0, 2), (most + 1, 0, 2),
                   (Ratio(1, most + 1), 1), (2, 1, most + 1))
        for k in range(4):
            for row in taken:
                f = (Poly(ground, row) * x.power(k)).monic()
                numbers = eigenvalues(companion(f))
                self.assertTrue(all(f(c).is_zero() for c in numbers))
                self.assertIs(Ratio(0) in numbers, k > 0)
            for row in refused:
                self.assertRefused("large", eigenvalues, companion((Poly(ground, row) * x.power(k)).monic()))

    def test_large_is_told_by_the_minimal_polynomial(self):
        ground = Ground()
        for c, told in ((1000000, True), (1000001, False), (-1000000, True), (Ratio(1, 1000000), True),
                        (Ratio(-1, 1000001), False)):
            a = with_diagonal(ground, (c, c, c, c, 0, 0))
            if told:
                numbers = [Ratio(0), c if isinstance(c, Ratio) else Ratio(c)]
                self.assertEqual(eigenvalues(a), tuple(sorted(numbers, key=fraction)))
            else:
                self.assertRefused("large", eigenvalues, a)
        for ground in GROUNDS[1:]:
            self.assertEqual(eigenvalues(with_diagonal(ground, (10 ** 50,))), (ground.number(10 ** 50),))

    def test_size_zero_and_not_square(self):
        for ground in GROUNDS:
            self.assertEqual(eigenvalues(Matrix(ground, ())), ())
            for a in not_square(ground):
                self.assertMisfit(eigenvalues, a)


def jordan(ground, c, size):
    return Matrix(ground, [[c if i == k else int(i == k + 1) for i in range(size)] for k in range(size)], size)


class JordanTest(Base):
    def test_told(self):
        for ground in GROUNDS:
            for sizes, others in (((1,), ()), ((3,), (1,)), ((2, 1), (2,)), ((2, 2, 1), (1, 1)), ((3, 3), (2,)),
                                  ((8,), ()), ((1,) * 8, ()), ((4, 2, 1), (1,)), ((), (3, 2)), ((3, 1, 1), (3,)),
                                  ((5, 2), ())):
                for c in (0, 1, -1, 3):
                    blocks = [jordan(ground, c, size) for size in sizes[::-1]]
                    blocks += [jordan(ground, c + 1, size) for size in others]
                    a = diagonal(ground, blocks)
                    for b in (a, in_another_basis(a, self.source)):
                        self.assertEqual(jordan_sizes(b, ground.number(c)), sizes)
                        self.assertEqual(jordan_sizes(b, ground.number(c + 1)), others)

    def test_against_the_ranks(self):
        for ground in GROUNDS:
            for a in squares(ground, self.source):
                for c in [ground.number(n) for n in (0, -1, 3)]:
                    sizes = jordan_sizes(a, c)
                    self.assertIs(type(sizes), tuple)
                    self.assertEqual(list(sizes), sorted(sizes, reverse=True))
                    self.assertTrue(all(type(size) is int and size > 0 for size in sizes))
                    step = a - unit(ground, len(a)).scaled(c)
                    ranks = [rank(step.power(k)) for k in range(len(a) + 2)]
                    for k in range(1, len(ranks)):
                        self.assertEqual(sum(size >= k for size in sizes), ranks[k - 1] - ranks[k])

    def test_no_eigenvalue(self):
        for ground in GROUNDS:
            for n in range(9):
                self.assertEqual(jordan_sizes(unit(ground, n), ground.zero()), ())
                self.assertEqual(jordan_sizes(nothing(ground, n, n), ground.one()), ())

    def test_no_number_of_the_ground(self):
        for ground in GROUNDS:
            for n in (0, 1, 3):
                for value in every_value() + [0, 1, True, Residue(7, 1)]:
                    if not ground.is_member(value):
                        self.assertMisfit(jordan_sizes, unit(ground, n), value)
            for a in not_square(ground):
                for value in (ground.zero(), ground.one(), 0, None):
                    self.assertMisfit(jordan_sizes, a, value)
