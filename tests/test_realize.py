"""Points 8.3, 8.4 and 8.5."""

import random
import unittest
from itertools import product

from similarforms.divisor import cofactors
from similarforms.errors import Malformed, Refused
from similarforms.ground import Ground
from similarforms.linear import rank
from similarforms.matrix import Matrix, companion, diagonal, nothing, unit
from similarforms.minimal import minimal_polynomial
from similarforms.plant import Plant
from similarforms.poly import Poly
from similarforms.reach import four_sizes, is_observable, is_reachable
from similarforms.realize import least_recurrence, minimal_realization, same_outputs, state_change
from tests.samples import (SIZES, all_plants, plants, sized_plant, small_plants, some_change, told_markov,
                           unlike_grounds)
from tests.values import GROUNDS, some_row


def is_recurrence(f, parameters):
    """Return True if the polynomial is a recurrence of the numbers, as far as they go."""
    sums = [sum((c * h for c, h in zip(f.row, parameters[k:])), f.ground.zero())
            for k in range(len(parameters) - max(f.degree(), 0))]
    return all(total.is_zero() for total in sums)


def monic_polys(ground, degree):
    return [Poly(ground, (*row, 1)) for row in product(ground.members(), repeat=degree)]


class Base(unittest.TestCase):
    def setUp(self):
        self.source = random.Random(84)


class RecurrenceTest(Base):
    def test_no_recurrence_of_a_lower_degree(self):
        for p, n, count in ((2, 0, 1), (2, 1, 8), (2, 2, 20), (2, 3, 20), (2, 4, 10), (3, 1, 8), (3, 2, 20), (3, 3, 6)):
            for plant in small_plants(p, n, count, self.source):
                parameters = told_markov(plant, 3 * n + 3)
                found = [f for degree in range(n + 1) for f in monic_polys(Ground(p), degree)
                         if is_recurrence(f, parameters)]
                # Of the least degree there is but one, and it divides all others.
                f = least_recurrence(plant)
                self.assertEqual(found[0], f)
                self.assertTrue(all((g % f).is_zero() for g in found))

    def test_degree_is_the_rank_of_the_table(self):
        for ground in GROUNDS:
            for plant in all_plants(ground, self.source):
                n = plant.size()
                f = least_recurrence(plant)
                parameters = told_markov(plant, 2 * n + 6)
                self.assertIs(type(f), Poly)
                self.assertEqual((f.ground, f.monic()), (ground, f))
                self.assertTrue(is_recurrence(f, parameters))
                self.assertEqual(f.degree(), rank(Matrix(ground, [parameters[i:i + n] for i in range(n)], n)))
                self.assertEqual(f.degree(), four_sizes(plant)[0])
                self.assertTrue((minimal_polynomial(plant.a) % f).is_zero())

    def test_without_outputs(self):
        for ground in GROUNDS:
            for n in range(9):
                zeros, ones = (0,) * n, (1,) * n
                for plant in (Plant(unit(ground, n), zeros, ones), Plant(unit(ground, n), ones, zeros),
                              sized_plant(ground, (0, n, 0, 0), self.source),
                              sized_plant(ground, (0, 0, n, 0), self.source)):
                    self.assertEqual(least_recurrence(plant), Poly(ground, (1,)))
                    self.assertEqual(minimal_realization(plant), Plant(Matrix(ground, ()), (), ()))

    def test_told(self):
        for ground in GROUNDS:
            step = Plant(Matrix(ground, ((0, 1), (1, 1))), (1, 0), (0, 1))
            self.assertEqual(least_recurrence(step), Poly(ground, (-1, -1, 1)))
            late = Plant(companion(Poly(ground, (0,) * 8 + (1,))), (1,) + (0,) * 7, (0,) * 7 + (1,))
            self.assertEqual(least_recurrence(late), Poly(ground, (0,) * 8 + (1,)))
            power = Plant(diagonal(ground, [Matrix(ground, ((3,),))] * 4), (1, 1, 1, 1), (1, 0, 0, 0))
            self.assertEqual(least_recurrence(power), Poly(ground, (-3, 1)))


class RealizationTest(Base):
    def test_form(self):
        for ground in GROUNDS:
            for plant in all_plants(ground, self.source):
                f = least_recurrence(plant)
                small = minimal_realization(plant)
                self.assertIs(type(small), Plant)
                many = plant.size() + f.degree() + 3
                told = told_markov(plant, many)
                self.assertEqual(small, Plant(companion(f), ([1] + [0] * 8)[:f.degree()], told[:f.degree()]))
                self.assertEqual(told_markov(small, many), told)
                self.assertIs(is_reachable(small) and is_observable(small), True)
                self.assertIs(same_outputs(plant, small), True)
                self.assertEqual(minimal_realization(small), small)

    def test_told(self):
        for ground in GROUNDS:
            plant = Plant(Matrix(ground, ((1, 0), (0, 0))), (1, 1), (1, 2))
            self.assertEqual(minimal_realization(plant), Plant(Matrix(ground, ((0, 1), (0, 1))), (1, 0), (3, 1))
                             if ground.p != 2 else Plant(Matrix(ground, ((1,),)), (1,), (1,)))

    def test_reachable_and_observable_plants_are_changed_to_theirs(self):
        for ground in GROUNDS:
            for size in range(9):
                plant = sized_plant(ground, (size, 0, 0, 0), self.source)
                small = minimal_realization(plant)
                rows, row = [], plant.b
                for _ in range(size):
                    rows.append(row)
                    row = plant.a.before(row)
                self.assertEqual(plant.changed(Matrix(ground, rows, size)), small)
                self.assertEqual(state_change(plant, small), Matrix(ground, rows, size))


class SameOutputsTest(Base):
    def test_changes_and_unseen_parts(self):
        for ground in GROUNDS:
            for plant in plants(ground, self.source)[::2]:
                n = plant.size()
                others = [plant, plant.changed(some_change(ground, n, self.source)), minimal_realization(plant)]
                if n < 7:
                    row = some_row(ground, n, self.source)
                    # A state that is never reached, and one that is never seen.
                    more = Matrix(ground, [list(line) + [0] for line in plant.a.rows] + [list(row) + [1]])
                    others.append(Plant(more, plant.b + (0,), plant.c + (1,)))
                    more = Matrix(ground, [list(line) + [x] for line, x in zip(plant.a.rows, row)] + [[0] * n + [1]])
                    others.append(Plant(more, plant.b + (1,), plant.c + (0,)))
                for other in others:
                    self.assertIs(same_outputs(plant, other), True)
                    self.assertIs(same_outputs(other, plant), True)

    def test_only_later_parameters_tell(self):
        for ground in GROUNDS:
            for m in range(9):
                for n in range(9 - m):
                    if m + n > 0:
                        # Both recurrences have the degree of the size, and the first difference is the last one.
                        one, two = self.late_pair(ground, m, n)
                        parameters = [told_markov(plant, m + n) for plant in (one, two)]
                        self.assertEqual(parameters[0][:-1], parameters[1][:-1])
                        self.assertNotEqual(*parameters)
                        self.assertIs(same_outputs(one, two), False)
                        self.assertIs(same_outputs(two, one), False)

    def late_pair(self, ground, m, n):
        """Return plants of the sizes `m` and `n` whose Markov parameters first differ at `m + n - 1`.

        They are the series of u / f and v / g in 1 / x, with u / f - v / g = 1 / (f g).
        """
        f, g = Poly(ground, (0, 1)).power(m), Poly(ground, (-1, 1)).power(n)
        _, u, v = cofactors(g, f)
        return self.series(f, u % f), self.series(g, -v % g)

    def series(self, f, u):
        """Return the plant of the degree of `f` whose Markov parameters are the series of `u / f`."""
        n, found, left = f.degree(), [], u
        for _ in range(n):
            left = left * Poly(f.ground, (0, 1))
            found.append((left // f).coefficient(0))
            left = left % f
        return Plant(companion(f), ([1] + [0] * n)[:n], found)

    def test_all_small_pairs(self):
        for p, sizes in ((2, (0, 1, 2)), (3, (0, 1, 2))):
            found = [plant for n in sizes for plant in small_plants(p, n, 12, self.source)]
            for one in found:
                for two in found:
                    same = told_markov(one, 9) == told_markov(two, 9)
                    self.assertIs(same_outputs(one, two), same)
                    self.assertIs(minimal_realization(one) == minimal_realization(two), same)

    def test_malformed(self):
        for one, two in unlike_grounds():
            for m in (0, 1, 2):
                for n in (0, 2):
                    plants_of_both = [Plant(unit(ground, size), (1,) * size, (0,) * size)
                                      for ground, size in ((one, m), (two, n))]
                    with self.assertRaises(Malformed):
                        same_outputs(*plants_of_both)


class ChangeTest(Base):
    def test_there_and_back(self):
        for ground in GROUNDS:
            found = [plant for plant in all_plants(ground, self.source) if is_reachable(plant)]
            self.assertGreater(len(found), 9)
            for plant in found:
                p = some_change(ground, plant.size(), self.source)
                other = plant.changed(p)
                self.assertEqual(state_change(plant, other), p)
                self.assertEqual(state_change(other, plant), p.inverse())
                self.assertEqual(state_change(plant, plant), unit(ground, plant.size()))

    def test_all_small_pairs(self):
        for p, n in ((2, 1), (2, 2), (3, 1)):
            rows = list(product(Ground(p).members(), repeat=n))
            matrices = [Matrix(Ground(p), chosen, n) for chosen in product(rows, repeat=n)]
            changes = [m for m in matrices if not m.determinant().is_zero()]
            found = [plant for plant in small_plants(p, n, 40, self.source) if is_reachable(plant)][:9]
            for one in found:
                for two in found + small_plants(p, n, 9, self.source):
                    told = [change for change in changes if one.changed(change) == two]
                    self.assertLessEqual(len(told), 1)
                    self.assertEqual(state_change(one, two), told[0] if told else None)

    def test_none(self):
        for ground in GROUNDS:
            for n in range(1, 9):
                one = sized_plant(ground, (n, 0, 0, 0), self.source)
                zeros = (0,) * n
                for other in (Plant(one.a, one.b, zeros), Plant(one.a, zeros, one.c), Plant(one.a, zeros, zeros),
                              Plant(one.a + unit(ground, n), one.b, one.c)):
                    self.assertIsNone(state_change(one, other))
                for m in range(9):
                    if m != n:
                        self.assertIsNone(state_change(one, sized_plant(ground, (m, 0, 0, 0), self.source)))
                        self.assertIsNone(state_change(one, Plant(nothing(ground, m, m), (0,) * m, (0,) * m)))

    def test_size_zero(self):
        for ground in GROUNDS:
            empty = Plant(Matrix(ground, ()), (), ())
            self.assertEqual(state_change(empty, empty), Matrix(ground, ()))

    def test_refused(self):
        for ground in GROUNDS:
            for sizes in SIZES:
                one = sized_plant(ground, sizes, self.source)
                if not is_reachable(one):
                    for two in (one, Plant(Matrix(ground, ()), (), ()), sized_plant(ground, (3, 0, 0, 0), self.source)):
                        with self.assertRaises(Refused) as caught:
                            state_change(one, two)
                        self.assertEqual(caught.exception.reason, "reach")

    def test_malformed(self):
        for one, two in unlike_grounds():
            for m in (0, 1, 2):
                for n in (0, 2):
                    # The grounds come first: the first plant is not reachable in the second of these cases.
                    for item in (1, 0):
                        first = Plant(unit(one, m), (item,) * m, (1,) * m)
                        with self.assertRaises(Malformed):
                            state_change(first, Plant(unit(two, n), (1,) * n, (1,) * n))
