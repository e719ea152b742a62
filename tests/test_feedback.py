"""Points 8.7 and 8.8."""

import random
import unittest
from itertools import product

from similarforms.cyclic import characteristic_polynomial
from similarforms.errors import Malformed
from similarforms.feedback import feedback, fixed_polynomial
from similarforms.ground import Ground
from similarforms.matrix import Matrix, companion, unit
from similarforms.minimal import annihilator
from similarforms.plant import Plant
from similarforms.poly import Poly
from similarforms.reach import is_reachable, reachable_space
from tests.samples import SIZES, all_plants, all_rows, bases, dot, sized_plant, small_plants, unlike_grounds
from tests.values import GROUNDS, some_poly, some_row


def monic(ground, degree, source):
    return Poly(ground, some_row(ground, degree, source) + (1,))


class Base(unittest.TestCase):
    def setUp(self):
        self.source = random.Random(88)


class FixedTest(Base):
    def test_with_the_minimal_polynomial_of_the_row(self):
        for ground in GROUNDS:
            for plant in all_plants(ground, self.source)[::2]:
                q = fixed_polynomial(plant)
                self.assertIs(type(q), Poly)
                self.assertEqual(q.monic(), q)
                self.assertEqual(q * annihilator(plant.a, plant.b), characteristic_polynomial(plant.a))
                self.assertEqual(q.degree(), plant.size() - len(reachable_space(plant)))
                fed = plant.fed([self.source.randint(-2, 2) for _ in range(plant.size())])
                self.assertTrue((characteristic_polynomial(fed.a) % q).is_zero())
                self.assertEqual(fixed_polynomial(fed), q)

    def test_told(self):
        for ground in GROUNDS:
            x, y, _ = bases(ground)
            for sizes in SIZES:
                plant = sized_plant(ground, sizes, self.source)
                self.assertEqual(fixed_polynomial(plant), y.power(sizes[2]) * x.power(sizes[3]))
            for n in range(9):
                zeros = Plant(unit(ground, n), (0,) * n, (1,) * n)
                self.assertEqual(fixed_polynomial(zeros), Poly(ground, (-1, 1)).power(n))


class FeedbackTest(Base):
    def assertGives(self, plant, f):
        k = feedback(plant, f)
        self.assertIs(type(k), tuple)
        self.assertEqual(len(k), plant.size())
        self.assertTrue(all(map(plant.a.ground.is_member, k)))
        fed = plant.fed(k)
        self.assertEqual(characteristic_polynomial(fed.a), f)
        self.assertEqual(reachable_space(fed), reachable_space(plant))
        return k

    def test_against_all_columns(self):
        for p, n, count in ((2, 0, 1), (2, 1, 8), (2, 2, 20), (2, 3, 12), (3, 1, 8), (3, 2, 12), (3, 3, 3)):
            for plant in small_plants(p, n, count, self.source):
                ground = plant.a.ground
                found = {}
                for k in all_rows(ground, n):
                    f = characteristic_polynomial(plant.fed(k).a)
                    found.setdefault(tuple(c.n for c in f.row), []).append(k)
                for row in product(range(p), repeat=n):
                    f = Poly(ground, (*row, 1))
                    if (*row, 1) in found:
                        self.assertIn(self.assertGives(plant, f), found[(*row, 1)])
                    else:
                        self.assertIsNone(feedback(plant, f))
                if is_reachable(plant):
                    self.assertEqual([len(columns) for columns in found.values()], [1] * p ** n)

    def test_multiples_of_the_fixed_polynomial(self):
        for ground in GROUNDS:
            for plant in all_plants(ground, self.source)[::3]:
                n, q = plant.size(), fixed_polynomial(plant)
                self.assertGives(plant, q * monic(ground, n - q.degree(), self.source))
                self.assertGives(plant, characteristic_polynomial(plant.a))
                self.assertGives(plant, q * Poly(ground, (0, 1)).power(n - q.degree()))
                if q.degree() > 0:
                    f = monic(ground, n, self.source)
                    other = q * monic(ground, n - q.degree(), self.source) + Poly(ground, (1,))
                    self.assertIsNone(feedback(plant, other))
                    if (f % q).is_zero():
                        self.assertGives(plant, f)
                    else:
                        self.assertIsNone(feedback(plant, f))

    def test_reachable_plants(self):
        for ground in GROUNDS:
            for n in range(9):
                plant = sized_plant(ground, (n, 0, 0, 0), self.source)
                self.assertEqual(fixed_polynomial(plant), Poly(ground, (1,)))
                f = monic(ground, n, self.source)
                k = self.assertGives(plant, f)
                # By Ackermann's formula, the column w is the last one of the inverse of the rows b A^i.
                rows, row = [], plant.b
                for _ in range(n):
                    rows.append(row)
                    row = plant.a.before(row)
                if n > 0:
                    w = [line[-1] for line in Matrix(ground, rows).inverse().rows]
                    self.assertEqual(k, tuple(-dot(ground, line, w) for line in plant.a.at(f).rows))
                # The way back: the column that gives the characteristic polynomial of before.
                back = feedback(plant.fed(k), characteristic_polynomial(plant.a))
                self.assertEqual(plant.fed(k).fed(back), plant)

    def test_a_row_of_zeros(self):
        for ground in GROUNDS:
            for n in range(1, 9):
                f = monic(ground, n, self.source)
                plant = Plant(companion(f), (0,) * n, (1,) * n)
                self.assertGives(plant, f)
                self.assertIsNone(feedback(plant, f + Poly(ground, (1,))))
            self.assertEqual(feedback(Plant(Matrix(ground, ()), (), ()), Poly(ground, (1,))), ())

    def test_told(self):
        for ground in GROUNDS:
            plant = Plant(Matrix(ground, ((0, 1), (0, 0))), (1, 0), (0, 0))
            self.assertEqual(feedback(plant, Poly(ground, (3, 5, 1))), (ground.number(-5), ground.number(-3)))


class MalformedTest(Base):
    def test_another_ground(self):
        for one, two in unlike_grounds():
            for n in (0, 1, 3):
                for row in ((0,) * n, (1,) + (0,) * (n - 1) if n else ()):
                    plant = Plant(unit(one, n), row, row)
                    for f in (Poly(two, (-1, 1)).power(n), Poly(two, (0,) * n + (1,)), Poly(two, ())):
                        with self.assertRaises(Malformed):
                            feedback(plant, f)

    def test_not_monic_of_the_degree(self):
        for ground in GROUNDS:
            for plant in all_plants(ground, self.source)[::5]:
                n = plant.size()
                q = fixed_polynomial(plant)
                wrong = [Poly(ground, ()), q * Poly(ground, (0, 1)).power(n + 1 - q.degree()),
                         monic(ground, n + 1, self.source), monic(ground, n + 8, self.source)]
                wrong += [monic(ground, degree, self.source) for degree in range(n)]
                wrong += [some_poly(ground, n - 1, self.source)]
                if ground != Ground(2):
                    wrong += [characteristic_polynomial(plant.a).scaled(ground.number(-1)),
                              -monic(ground, n, self.source)]
                for f in wrong:
                    with self.assertRaises(Malformed):
                        feedback(plant, f)
