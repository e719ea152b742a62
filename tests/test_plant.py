"""Points 8.1, 8.3 and 8.7, as far as plants themselves go."""

import random
import unittest

from similarforms.errors import Malformed, Refused
from similarforms.ground import Ground
from similarforms.linear import same_span
from similarforms.matrix import Matrix, nothing, unit
from similarforms.minimal import krylov
from similarforms.plant import Plant
from similarforms.ratio import Ratio
from similarforms.residue import Residue
from tests.samples import dot, not_square, plants, rows_that_do_not_fit, told_markov, unlike_grounds
from tests.values import GROUNDS, every_value, some, some_matrix, some_row


class Base(unittest.TestCase):
    def setUp(self):
        self.source = random.Random(81)


class MadeTest(Base):
    def test_items_are_taken_into_the_ground(self):
        for ground in GROUNDS:
            a = Matrix(ground, ((1, 2), (3, 4)))
            numbers = (ground.number(5), ground.number(-1))
            for b in ((5, -1), [5, -1], numbers, list(numbers), (numbers[0], -1), [5, numbers[1]]):
                for plant in (Plant(a, b, (0, 7)), Plant(a, (0, 7), b)):
                    row, other = (plant.b, plant.c) if plant.b == numbers else (plant.c, plant.b)
                    self.assertEqual((row, other), (numbers, (ground.zero(), ground.number(7))))
                    self.assertIs(type(plant.b), tuple)
                    self.assertIs(type(plant.c), tuple)
                    self.assertTrue(all(map(ground.is_member, plant.b + plant.c)))
                    self.assertEqual(plant.a, a)
            none = Plant(Matrix(ground, ()), (), [])
            self.assertEqual((none.a, none.b, none.c), (Matrix(ground, ()), (), ()))

    def test_malformed(self):
        for ground in GROUNDS:
            for a in not_square(ground):
                for items in ((0,) * len(a), (0,) * a.width, ()):
                    with self.assertRaises(Malformed):
                        Plant(a, items, items)
            for n in (0, 1, 2, 8):
                fits = (1,) * n
                for value in self.misfits(ground, n):
                    for b, c in ((value, fits), (fits, value), (value, value)):
                        with self.assertRaises(Malformed):
                            Plant(unit(ground, n), b, c)
                    with self.assertRaises(Malformed):
                        Plant(unit(ground, n), fits, fits).fed(value)

    def misfits(self, ground, n):
        """Return values that are no lists or tuples of `n` numbers or integers."""
        def fits(value):
            return isinstance(value, (list, tuple)) and len(value) == n and all(
                ground.is_member(x) or type(x) is int for x in value)
        found = [value for value in rows_that_do_not_fit(ground, n) + every_value() if not fits(value)]
        self.assertGreater(len(found), 20)
        return found

    def test_equality(self):
        for ground in GROUNDS:
            a = Matrix(ground, ((1, 0), (1, 1)))
            one = Plant(a, (1, 0), (0, 1))
            self.assertIs(one == Plant(a, [ground.one(), 0], [0, 1]), True)
            self.assertIs(one != Plant(a, [ground.one(), 0], [0, 1]), False)
            for other in (Plant(a, (1, 1), (0, 1)), Plant(a, (1, 0), (1, 1)), Plant(-a + a, (1, 0), (0, 1)),
                          Plant(unit(ground, 2), (1, 0), (0, 1)), Plant(unit(ground, 1), (1,), (0,))):
                self.assertIs(one == other, False)
                self.assertIs(other == one, False)
                self.assertIs(one != other, True)
            for value in every_value() + [a, (a, one.b, one.c)]:
                self.assertIs(one == value, False)
        for one, other in unlike_grounds():
            for n in (0, 1):
                plant, twin = (Plant(unit(ground, n), (1,) * n, (0,) * n) for ground in (one, other))
                self.assertIs(plant == twin, False)


class MovesTest(Base):
    def test_size_and_after(self):
        for ground in GROUNDS:
            for plant in plants(ground, self.source):
                self.assertEqual(plant.size(), len(plant.a))
                x, u = some_row(ground, plant.size(), self.source), some(ground, self.source)
                state = plant.after(x, u)
                self.assertIs(type(state), tuple)
                self.assertEqual(state, tuple(s + u * t for s, t in zip(plant.a.before(x), plant.b)))
            told = Plant(Matrix(ground, ((1, 2), (3, 4))), (1, 10), (0, 0)).after(
                (ground.number(1), ground.number(-1)), ground.number(5))
            self.assertEqual(told, (ground.number(3), ground.number(48)))
            self.assertEqual(Plant(Matrix(ground, ()), (), ()).after((), ground.one()), ())

    def test_markov(self):
        for ground in GROUNDS:
            for plant in plants(ground, self.source):
                told = told_markov(plant, 10)
                self.assertEqual([plant.markov(k) for k in range(10)], told)
                self.assertEqual(plant.markov(3), dot(ground, plant.a.power(3).before(plant.b), plant.c))
            self.assertEqual(Plant(Matrix(ground, ()), (), ()).markov(4), ground.zero())
            turn = Plant(Matrix(ground, ((0, 1), (-1, 0))), (1, 0), (0, 1))
            self.assertEqual([turn.markov(k) for k in range(4)], [ground.number(n) for n in (0, 1, 0, -1)])
            self.assertEqual(turn.markov(10 ** 40 + 1), ground.one())

    def test_outputs(self):
        for ground in GROUNDS:
            for plant in plants(ground, self.source):
                inputs = [some(ground, self.source) for _ in range(self.source.randint(0, 7))]
                markov, told = told_markov(plant, len(inputs)), []
                for t in range(len(inputs)):
                    told.append(dot(ground, inputs[:t + 1], markov[t::-1]))
                found = plant.outputs(inputs)
                self.assertIs(type(found), tuple)
                self.assertEqual(list(found), told)
                self.assertEqual(plant.outputs(tuple(inputs)), found)
                self.assertEqual(plant.outputs([]), ())
                state = (ground.zero(),) * plant.size()
                for u, y in zip(inputs, found):
                    state = plant.after(state, u)
                    self.assertEqual(dot(ground, state, plant.c), y)
                whole = [1, 0, -1, 5, 2]
                self.assertEqual(plant.outputs(whole), plant.outputs([ground.number(u) for u in whole]))

    def test_outputs_of_other_items(self):
        for ground in GROUNDS:
            for n in (0, 2):
                plant = Plant(unit(ground, n), (1,) * n, (1,) * n)
                for value in every_value() + [Residue(7, 1), Ratio(1, 2)]:
                    if type(value) is not int and not ground.is_member(value):
                        for inputs in ([value], (1, value), [value, 1], (ground.one(), value, 0)):
                            with self.assertRaises(Malformed):
                                plant.outputs(inputs)


class ChangesTest(Base):
    def changes(self, ground, n):
        """Return matrices of the size `n` with an inverse."""
        found = [unit(ground, n), -unit(ground, n)]
        while len(found) < 4:
            p = some_matrix(ground, n, n, self.source)
            if not p.determinant().is_zero():
                found.append(p)
        return found

    def test_changed(self):
        for ground in GROUNDS:
            for plant in plants(ground, self.source):
                n = plant.size()
                for p in self.changes(ground, n):
                    other = plant.changed(p)
                    self.assertIs(type(other), Plant)
                    self.assertEqual(other.a * p, p * plant.a)
                    self.assertEqual(p.before(other.b), plant.b)
                    self.assertEqual(other.c, tuple(dot(ground, row, plant.c) for row in p.rows))
                    self.assertEqual(told_markov(other, 2 * n), told_markov(plant, 2 * n))
                    self.assertEqual(other.changed(p.inverse()), plant)
                self.assertEqual(plant.changed(unit(ground, n)), plant)

    def test_changed_by_what_does_not_fit(self):
        for ground in GROUNDS:
            for n in (0, 1, 2, 3):
                plant = Plant(nothing(ground, n, n), (1,) * n, (1,) * n)
                for p in not_square(ground) + [unit(ground, m) for m in range(5) if m != n]:
                    with self.assertRaises(Malformed):
                        plant.changed(p)
                for p in [nothing(ground, m, m) for m in range(1, 5) if m != n]:
                    with self.assertRaises(Malformed):
                        plant.changed(p)
                if n > 0:
                    for p in (nothing(ground, n, n), Matrix(ground, [[1] * n] * (n - 1) + [[0] * n])):
                        with self.assertRaises(Refused) as caught:
                            plant.changed(p)
                        self.assertEqual(caught.exception.reason, "singular")
        for one, other in unlike_grounds():
            for n in (0, 1, 3):
                for p in (unit(other, n), nothing(other, n, n)):
                    with self.assertRaises(Malformed):
                        Plant(unit(one, n), (1,) * n, (1,) * n).changed(p)

    def test_fed(self):
        for ground in GROUNDS:
            for plant in plants(ground, self.source):
                k = some_row(ground, plant.size(), self.source)
                other = plant.fed(k)
                self.assertIs(type(other), Plant)
                self.assertEqual((other.b, other.c), (plant.b, plant.c))
                rows = [[item + x * y for item, y in zip(row, plant.b)] for row, x in zip(plant.a.rows, k)]
                self.assertEqual(other.a, Matrix(ground, rows, plant.size()))
                self.assertEqual(plant.fed(list(k)), other)
                self.assertEqual(plant.fed([0] * plant.size()), plant)
                # The input u at a state x becomes u + x k, and the reachable space stays as it is.
                x, u = some_row(ground, plant.size(), self.source), some(ground, self.source)
                self.assertEqual(other.after(x, u), plant.after(x, u + dot(ground, x, k)))
                self.assertIs(same_span(krylov(other.a, other.b), krylov(plant.a, plant.b)), True)
            told = Plant(Matrix(ground, ((1, 2), (3, 4))), (1, 10), (0, 0)).fed((2, -1))
            self.assertEqual(told.a, Matrix(ground, ((3, 22), (2, -6))))
            self.assertEqual(Plant(Matrix(Ground(), ()), (), ()).fed([]).size(), 0)
