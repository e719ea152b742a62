"""Points 8.2 and 8.6, and what 8.3 and 8.7 say of these spaces."""

import random
import unittest

from similarforms.linear import rank, reduced, span_holds
from similarforms.matrix import Matrix, unit
from similarforms.minimal import is_invariant
from similarforms.plant import Plant
from similarforms.reach import four_sizes, is_observable, is_reachable, reachable_space, unobservable_space
from tests.samples import SIZES, all_plants, all_rows, dot, plants, sized_plant, small_plants, some_change
from tests.values import GROUNDS, some_row


def reached_states(plant):
    """Return the set of all states to which inputs lead from the state 0, as tuples of integers."""
    ground = plant.a.ground
    start = (ground.zero(),) * plant.size()
    found, new = {numbers(start)}, [start]
    while new:
        states = [plant.after(x, u) for x in new for u in ground.members()]
        new = []
        for state in states:
            if numbers(state) not in found:
                found.add(numbers(state))
                new.append(state)
    return found


def is_silent(plant, state):
    """Return True if inputs 0 lead to outputs 0, until a state comes again."""
    seen = set()
    while numbers(state) not in seen:
        if not dot(plant.a.ground, state, plant.c).is_zero():
            return False
        seen.add(numbers(state))
        state = plant.after(state, plant.a.ground.zero())
    return True


def numbers(row):
    return tuple(x.n for x in row)


class Base(unittest.TestCase):
    def setUp(self):
        self.source = random.Random(82)

    def assertReduced(self, plant, space):
        self.assertIs(type(space), Matrix)
        self.assertEqual((space.ground, space.width), (plant.a.ground, plant.size()))
        self.assertEqual(space, reduced(space)[0])
        self.assertIs(is_invariant(plant.a, space), True)


class SpacesTest(Base):
    def test_all_states_of_small_plants(self):
        for p, n, count in ((2, 0, 1), (2, 1, 8), (2, 2, 25), (2, 3, 25), (3, 1, 8), (3, 2, 20), (3, 3, 6)):
            for plant in small_plants(p, n, count, self.source):
                ground = plant.a.ground
                reached = reached_states(plant)
                space, hidden = reachable_space(plant), unobservable_space(plant)
                self.assertReduced(plant, space)
                self.assertReduced(plant, hidden)
                for state in all_rows(ground, n):
                    self.assertIs(span_holds(space, state), numbers(state) in reached)
                    self.assertIs(span_holds(hidden, state), is_silent(plant, state))
                self.assertIs(is_reachable(plant), len(reached) == p ** n)
                self.assertIs(is_observable(plant), not any(
                    is_silent(plant, state) for state in all_rows(ground, n) if any(x.n for x in state)))

    def test_spaces(self):
        for ground in GROUNDS:
            for plant in all_plants(ground, self.source):
                n = plant.size()
                space, hidden = reachable_space(plant), unobservable_space(plant)
                self.assertReduced(plant, space)
                self.assertReduced(plant, hidden)
                # Each row of the one is a sum of images of b, and these are in it; no row of the other is ever seen.
                row, rows = plant.b, []
                for _ in range(n):
                    rows.append(row)
                    self.assertTrue(span_holds(space, row))
                    row = plant.a.before(row)
                self.assertEqual(len(space), rank(Matrix(ground, rows, n)))
                columns = [plant.c]
                for _ in range(n):
                    columns.append(tuple(dot(ground, line, columns[-1]) for line in plant.a.rows))
                self.assertTrue(all(dot(ground, v, w).is_zero() for v in hidden.rows for w in columns))
                self.assertEqual(len(hidden), n - rank(Matrix(ground, columns[:n], n)))
                self.assertIs(is_reachable(plant), len(space) == n)
                self.assertIs(is_observable(plant), len(hidden) == 0)

    def test_zeros(self):
        for ground in GROUNDS:
            for n in range(9):
                none, everything = Matrix(ground, (), n), unit(ground, n)
                a, ones, zeros = everything + everything, (1,) * n, (0,) * n
                self.assertEqual(reachable_space(Plant(a, zeros, ones)), none)
                self.assertEqual(unobservable_space(Plant(a, ones, zeros)), everything)
                self.assertIs(is_reachable(Plant(a, zeros, ones)), n == 0)
                self.assertIs(is_observable(Plant(a, ones, zeros)), n == 0)

    def test_told(self):
        for ground in GROUNDS:
            shift = Matrix(ground, ((0, 1, 0), (0, 0, 1), (0, 0, 0)))
            for b, rows in (((1, 0, 0), unit(ground, 3).rows), ((0, 1, 0), unit(ground, 3).rows[1:]),
                            ((0, 0, 4), unit(ground, 3).rows[2:] if ground.p != 2 else ())):
                plant = Plant(shift, b, (0, 0, 1))
                self.assertEqual(reachable_space(plant), Matrix(ground, rows, 3))
                self.assertEqual(unobservable_space(plant), Matrix(ground, (), 3))
            for c, rows in (((1, 0, 0), unit(ground, 3).rows[1:]), ((0, 1, 0), unit(ground, 3).rows[2:]),
                            ((0, 1, -1), ())):
                plant = Plant(shift, (1, 0, 0), c)
                self.assertEqual(unobservable_space(plant), Matrix(ground, rows, 3))
                self.assertIs(is_observable(plant), rows == ())
                self.assertIs(is_reachable(plant), True)

    def test_spaces_move_with_a_change_and_stay_with_feedback(self):
        for ground in GROUNDS:
            for plant in plants(ground, self.source)[::2]:
                p = some_change(ground, plant.size(), self.source)
                other = plant.changed(p)
                back = p.inverse()
                self.assertEqual(reachable_space(other), reduced(reachable_space(plant) * back)[0])
                self.assertEqual(unobservable_space(other), reduced(unobservable_space(plant) * back)[0])
                self.assertEqual(four_sizes(other), four_sizes(plant))
                k = some_row(ground, plant.size(), self.source)
                self.assertEqual(reachable_space(plant.fed(k)), reachable_space(plant))
                self.assertIs(is_reachable(plant.fed(k)), is_reachable(plant))


class SizesTest(Base):
    def test_against_the_space_of_the_rows_in_both(self):
        for p, n, count in ((2, 0, 1), (2, 1, 8), (2, 2, 25), (2, 3, 25), (3, 1, 8), (3, 2, 20), (3, 3, 6)):
            for plant in small_plants(p, n, count, self.source):
                space, hidden = reachable_space(plant), unobservable_space(plant)
                shared = [v for v in all_rows(plant.a.ground, n) if span_holds(space, v) and span_holds(hidden, v)]
                r, s, m = len(space), len(hidden), [p ** k for k in range(n + 1)].index(len(shared))
                self.assertEqual(four_sizes(plant), (r - m, m, n - r - s + m, s - m))

    def test_dimensions(self):
        for ground in GROUNDS:
            for plant in all_plants(ground, self.source):
                sizes = four_sizes(plant)
                self.assertIs(type(sizes), tuple)
                self.assertTrue(all(type(size) is int and size >= 0 for size in sizes))
                self.assertEqual(sum(sizes), plant.size())
                space, hidden = reachable_space(plant), unobservable_space(plant)
                self.assertEqual((sizes[0] + sizes[1], sizes[1] + sizes[3]), (len(space), len(hidden)))
                # The rows of one space that the other one adds nothing to: their sum has the dimension r + s - m.
                together = [v for v in hidden.rows if not span_holds(space, v)]
                for v in together:
                    if not span_holds(space, v):
                        space = Matrix(ground, space.rows + (v,), plant.size())
                self.assertEqual(len(space), sum(sizes) - sizes[2])

    def test_told(self):
        for ground in GROUNDS:
            for sizes in SIZES:
                self.assertEqual(four_sizes(sized_plant(ground, sizes, self.source)), sizes)
