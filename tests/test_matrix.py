"""Points 3.1, 3.4 and 3.5."""

import random
import unittest
from itertools import permutations

from similarforms.errors import Malformed, Refused
from similarforms.ground import Ground
from similarforms.matrix import Matrix, companion, diagonal, nothing, unit
from similarforms.poly import Poly
from similarforms.ratio import Ratio
from similarforms.residue import Residue
from tests.values import GROUNDS, LARGE, every_value, some, some_matrix, some_poly, some_row

SIZES = ((0, 0), (0, 3), (2, 0), (1, 1), (1, 4), (3, 1), (2, 2), (3, 5), (5, 3), (8, 8))


def told_product(ground, one, two, width):
    """Return the rows of the product of two tuples of rows, by the definition."""
    out = []
    for row in one:
        items = []
        for k in range(width):
            total = ground.zero()
            for x, other in zip(row, two):
                total = total + x * other[k]
            items.append(total)
        out.append(tuple(items))
    return tuple(out)


def told_determinant(m):
    """Return the determinant as the sum over all permutations."""
    total = m.ground.zero()
    for order in permutations(range(len(m))):
        term = m.ground.one()
        for k, i in enumerate(order):
            term = term * m.rows[k][i]
        swaps = sum(order[i] > order[k] for k in range(len(m)) for i in range(k))
        total = total - term if swaps % 2 else total + term
    return total


class MadeTest(unittest.TestCase):
    def assertIsMatrix(self, m, ground, rows, width):
        self.assertIs(type(m), Matrix)
        self.assertEqual(m.ground, ground)
        self.assertIs(type(m.rows), tuple)
        self.assertTrue(all(type(row) is tuple and len(row) == width for row in m.rows))
        self.assertTrue(all(ground.is_member(item) for row in m.rows for item in row))
        self.assertEqual(m.rows, tuple(tuple(map(ground.number, row)) for row in rows))
        self.assertIs(type(m.width), int)
        self.assertEqual(m.width, width)
        self.assertEqual(len(m), len(rows))

    def assertRefused(self, reason, function, *arguments):
        with self.assertRaises(Refused) as caught:
            function(*arguments)
        self.assertEqual(caught.exception.reason, reason)

    def test_items_are_taken_into_the_ground(self):
        for ground in GROUNDS:
            rows = ((1, -2, LARGE), (31, 0, 5))
            numbers = [[ground.number(item) for item in row] for row in rows]
            for form in (rows, [list(row) for row in rows], (list(rows[0]), rows[1]), numbers, [numbers[0], rows[1]]):
                self.assertIsMatrix(Matrix(ground, form), ground, rows, 3)
                self.assertIsMatrix(Matrix(ground, form, 3), ground, rows, 3)
                self.assertIsMatrix(Matrix(ground, form, width=3), ground, rows, 3)
                self.assertIsMatrix(Matrix(ground, form, None), ground, rows, 3)

    def test_width_of_no_rows(self):
        for ground in GROUNDS:
            for form in ((), []):
                self.assertIsMatrix(Matrix(ground, form), ground, (), 0)
                for width in (0, 1, 8, 9, 64):
                    self.assertIsMatrix(Matrix(ground, form, width), ground, (), width)

    def test_width_zero(self):
        for ground in GROUNDS:
            for height in range(9):
                self.assertIsMatrix(Matrix(ground, [()] * height), ground, ((),) * height, 0)
                self.assertIsMatrix(Matrix(ground, [[]] * height, 0), ground, ((),) * height, 0)

    def test_another_length_than_the_width(self):
        for ground in GROUNDS:
            for rows, width in ((((1, 2), (3,)), None), (((1,), (3, 4)), None), (((), (1,)), None), (((1,), ()), None),
                                (((1, 2),), 1), (((1, 2),), 3), (((1, 2),), 0), (((),), 1), (((1,), (1, 2)), 2),
                                (((0,) * 64,), 65), (((0,) * 65,), 64), (((1, 2),), -1), ((), -1)):
                with self.assertRaises(Malformed):
                    Matrix(ground, rows, width)

    def test_values_of_another_form(self):
        for ground in GROUNDS:
            for value in every_value():
                if not isinstance(value, (list, tuple)):
                    for width in (None, 0, 1):
                        with self.assertRaises(Malformed):
                            Matrix(ground, value, width)
                        for rows in ((value,), [value], [(), value], ((1,), value)):
                            with self.assertRaises(Malformed):
                                Matrix(ground, rows, width)
                if type(value) is not int and not ground.is_member(value):
                    for rows in (((value,),), [[1, value], [0, 0]], [(1, 0), (0, value)]):
                        with self.assertRaises(Malformed):
                            Matrix(ground, rows)

    def test_large(self):
        for ground in GROUNDS:
            self.assertIsMatrix(Matrix(ground, [(1,) * 64] * 8), ground, [(1,) * 64] * 8, 64)
            for rows, width in (([(1,)] * 9, None), ([()] * 9, None), ([(1,)] * 9, 1), ([(1,) * 65], None), ((), 65),
                                ([(1,) * 65], 65), ([(1,) * 65] * 9, None), ((), LARGE), ([(1,)] * 300, None)):
                self.assertRefused("large", Matrix, ground, rows, width)

    def test_malformed_before_large(self):
        for ground in GROUNDS:
            for rows, width in (([(1,)] * 8 + [("1",)], None), ([(1,)] * 8 + [()], None), ([(1,)] * 9, 2),
                                ([(1,) * 64 + (True,)], None), ([(1,) * 65, (1,)], None), ([(1,)] * 9 + [None], None),
                                ([(1,) * 64], 65), ([()] * 9, 65)):
                with self.assertRaises(Malformed):
                    Matrix(ground, rows, width)

    def test_equality(self):
        forms = [((), 0), ((), 1), ((), 2), (((),), 0), (((), ()), 0), (((1,),), 1), (((0,),), 1), (((1, 0),), 2),
                 (((1,), (0,)), 1), (((1, 0), (0, 1)), 2), (((1, 0), (1, 1)), 2)]
        for ground in GROUNDS:
            for one in forms:
                for two in forms:
                    self.assertIs(Matrix(ground, *one) == Matrix(ground, *two), one == two)
                    self.assertIs(Matrix(ground, *one) != Matrix(ground, *two), one != two)
            for other in GROUNDS:
                for one in forms:
                    self.assertIs(Matrix(ground, *one) == Matrix(other, *one), ground == other)

    def test_equality_with_every_value(self):
        for value in every_value():
            for m in (Matrix(Ground(), ()), unit(Ground(2), 2), Matrix(Ground(), ((1,),))):
                same = type(value) is Matrix and (value.ground, value.rows, value.width) == (m.ground, m.rows, m.width)
                self.assertIs(m == value, same)

    def test_unit_and_nothing(self):
        for ground in GROUNDS:
            for n in range(9):
                told = [[int(i == k) for i in range(n)] for k in range(n)]
                self.assertIsMatrix(unit(ground, n), ground, told, n)
                for width in (0, 1, 5, 64):
                    self.assertIsMatrix(nothing(ground, n, width), ground, [[0] * width] * n, width)
            self.assertRefused("large", unit, ground, 9)
            self.assertRefused("large", nothing, ground, 9, 1)
            self.assertRefused("large", nothing, ground, 1, 65)

    def test_diagonal(self):
        for ground in GROUNDS:
            one, two, none = Matrix(ground, ((1, 2), (3, 4))), Matrix(ground, ((5,),)), Matrix(ground, ())
            for form in ((), [], (none,), [none, none]):
                self.assertIsMatrix(diagonal(ground, form), ground, (), 0)
            self.assertIsMatrix(diagonal(ground, (one,)), ground, ((1, 2), (3, 4)), 2)
            self.assertIsMatrix(diagonal(ground, [one, none, two]), ground, ((1, 2, 0), (3, 4, 0), (0, 0, 5)), 3)
            self.assertIsMatrix(diagonal(ground, (two, one)), ground, ((5, 0, 0), (0, 1, 2), (0, 3, 4)), 3)
            self.assertEqual(diagonal(ground, [two] * 8), unit(ground, 8).scaled(ground.number(5)))
            self.assertRefused("large", diagonal, ground, [one] * 4 + [two])

    def test_companion(self):
        for ground in GROUNDS:
            self.assertIsMatrix(companion(Poly(ground, (1,))), ground, (), 0)
            self.assertIsMatrix(companion(Poly(ground, (7, 1))), ground, ((-7,),), 1)
            self.assertIsMatrix(companion(Poly(ground, (2, 3, 1))), ground, ((0, 1), (-2, -3)), 2)
            told = ((0, 1, 0), (0, 0, 1), (-4, 0, 9))
            self.assertIsMatrix(companion(Poly(ground, (4, 0, -9, 1))), ground, told, 3)
            self.assertRefused("large", companion, Poly(ground, (1,) * 10))

    def test_companion_in_its_polynomial(self):
        source = random.Random(41)
        for ground in GROUNDS:
            for degree in range(9):
                f = Poly(ground, (*some_row(ground, degree, source), 1))
                self.assertEqual(companion(f).at(f), nothing(ground, degree, degree))

    def test_companion_of_what_is_not_monic(self):
        for ground in GROUNDS:
            for row in ((), (-1,), (1, -1), (1, 2), (1, 1, -1), (5, 4, 3, 2)):
                f = Poly(ground, row)
                if f.is_zero() or f.row[-1] != ground.one():
                    with self.assertRaises(Malformed):
                        companion(f)
        with self.assertRaises(Malformed):
            companion(Poly(Ground(), (1, Ratio(1, 2))))
        with self.assertRaises(Malformed):
            companion(Poly(Ground(2), ()))


class OperationsTest(unittest.TestCase):
    def setUp(self):
        self.source = random.Random(42)

    def test_sum_difference_negative_scaled(self):
        for ground in GROUNDS:
            for height, width in SIZES:
                a, b = (some_matrix(ground, height, width, self.source) for _ in range(2))
                c = some(ground, self.source)
                pairs = [list(zip(one, two)) for one, two in zip(a.rows, b.rows)]
                self.assertEqual(a + b, Matrix(ground, [[x + y for x, y in row] for row in pairs], width))
                self.assertEqual(a - b, Matrix(ground, [[x - y for x, y in row] for row in pairs], width))
                self.assertEqual(-a, Matrix(ground, [[-x for x in row] for row in a.rows], width))
                self.assertEqual(a.scaled(c), Matrix(ground, [[x * c for x in row] for row in a.rows], width))

    def test_product(self):
        for ground in GROUNDS:
            for height, middle, width in ((0, 0, 0), (0, 2, 3), (2, 0, 3), (2, 3, 0), (0, 0, 4), (3, 0, 0), (1, 1, 1),
                                          (2, 3, 4), (8, 8, 64), (4, 8, 5), (8, 1, 8), (1, 8, 1)):
                a = some_matrix(ground, height, middle, self.source)
                b = some_matrix(ground, middle, width, self.source)
                self.assertEqual(a * b, Matrix(ground, told_product(ground, a.rows, b.rows, width), width))

    def test_before(self):
        for ground in GROUNDS:
            for height, width in SIZES:
                m, row = some_matrix(ground, height, width, self.source), some_row(ground, height, self.source)
                self.assertIs(type(m.before(row)), tuple)
                self.assertEqual((m.before(row),), told_product(ground, [row], m.rows, width))
                for other in (height - 1, height + 1, 0, 9):
                    if other >= 0 and other != height:
                        with self.assertRaises(Malformed):
                            m.before((ground.one(),) * other)

    def test_transposed(self):
        for ground in GROUNDS:
            for height, width in SIZES:
                m = some_matrix(ground, height, width, self.source)
                columns = [[row[k] for row in m.rows] for k in range(width)]
                self.assertEqual(m.transposed(), Matrix(ground, columns, height))
                self.assertEqual(m.transposed().transposed(), m)
            for m in (nothing(ground, 1, 9), nothing(ground, 8, 64), nothing(ground, 0, 9)):
                with self.assertRaises(Refused) as caught:
                    m.transposed()
                self.assertEqual(caught.exception.reason, "large")

    def test_is_square_and_is_zero(self):
        for ground in GROUNDS:
            for height, width in SIZES:
                m = nothing(ground, height, width)
                self.assertIs(m.is_square(), height == width)
                self.assertIs(m.is_zero(), True)
                for k in range(height * width):
                    rows = [list(row) for row in m.rows]
                    rows[k // width][k % width] = ground.one()
                    self.assertIs(Matrix(ground, rows, width).is_zero(), False)

    def test_power_trace_at(self):
        for ground in GROUNDS:
            for n in (0, 1, 2, 3, 5):
                m = some_matrix(ground, n, n, self.source)
                expected = unit(ground, n)
                powers = []
                for k in range(8):
                    self.assertEqual(m.power(k), expected)
                    powers.append(expected)
                    expected = expected * m
                total = ground.zero()
                for k in range(n):
                    total = total + m.rows[k][k]
                self.assertEqual(m.trace(), total)
                for degree in range(-1, 7):
                    f = some_poly(ground, degree, self.source)
                    value = nothing(ground, n, n)
                    for k in range(f.degree() + 1):
                        value = value + powers[k].scaled(f.row[k])
                    self.assertEqual(m.at(f), value)
            self.assertEqual(nothing(ground, 3, 3).at(Poly(ground, (2, 1))), unit(ground, 3).scaled(ground.number(2)))
            self.assertEqual(unit(ground, 2).at(Poly(ground, ())), nothing(ground, 2, 2))

    def test_long_exponent(self):
        turn = Matrix(Ground(), ((0, 1), (-1, 0)))
        self.assertEqual(turn.power(10 ** 40 + 3), Matrix(Ground(), ((0, -1), (1, 0))))

    def test_determinant(self):
        for ground in GROUNDS:
            self.assertEqual(Matrix(ground, ()).determinant(), ground.one())
            for n in range(5):
                for _ in range(12):
                    m = some_matrix(ground, n, n, self.source)
                    self.assertEqual(m.determinant(), told_determinant(m))
                    self.assertTrue(ground.is_member(m.determinant()))
            for order in permutations(range(4)):
                m = Matrix(ground, [[int(i == k) for i in range(4)] for k in order])
                self.assertEqual(m.determinant(), told_determinant(m))
            a, b = (some_matrix(ground, 8, 8, self.source) for _ in range(2))
            self.assertEqual((a * b).determinant(), a.determinant() * b.determinant())

    def test_inverse(self):
        found = {True: 0, False: 0}
        for ground in GROUNDS:
            for n in (0, 1, 2, 3, 4, 8):
                for _ in range(10):
                    m = some_matrix(ground, n, n, self.source)
                    singular = m.determinant().is_zero()
                    found[singular] += 1
                    if singular:
                        with self.assertRaises(Refused) as caught:
                            m.inverse()
                        self.assertEqual(caught.exception.reason, "singular")
                    else:
                        self.assertEqual(m * m.inverse(), unit(ground, n))
                        self.assertEqual(m.inverse() * m, unit(ground, n))
            for n in range(1, 9):
                with self.assertRaises(Refused):
                    nothing(ground, n, n).inverse()
                self.assertEqual(unit(ground, n).inverse(), unit(ground, n))
        self.assertGreater(min(found.values()), 20)

    def test_not_square(self):
        for ground in GROUNDS:
            f = Poly(ground, (1, 1))
            for height, width in ((0, 1), (1, 0), (2, 3), (3, 2), (1, 64), (8, 9)):
                m = nothing(ground, height, width)
                for attempt in (lambda: m.power(0), lambda: m.power(2), m.trace, m.determinant, m.inverse,
                                lambda: m.at(f), lambda: m.at(Poly(ground, ()))):
                    with self.assertRaises(Malformed):
                        attempt()

    def test_polynomial_over_another_ground(self):
        for one in GROUNDS:
            for other in GROUNDS:
                if one != other:
                    for row in ((), (1,), (0, 1)):
                        for n in (0, 1, 2):
                            with self.assertRaises(Malformed):
                                unit(one, n).at(Poly(other, row))

    def test_unlike_grounds(self):
        for one in GROUNDS:
            for other in GROUNDS:
                if one != other:
                    for n in (0, 1, 2):
                        a, b = unit(one, n), unit(other, n)
                        for attempt in (lambda: a + b, lambda: a - b, lambda: a * b):
                            with self.assertRaises(Malformed):
                                attempt()

    def test_sizes_that_do_not_fit(self):
        for ground in GROUNDS:
            for one in SIZES:
                for two in SIZES:
                    a, b = nothing(ground, *one), nothing(ground, *two)
                    if one != two:
                        for attempt in (lambda: a + b, lambda: a - b):
                            with self.assertRaises(Malformed):
                                attempt()
                    if one[1] != two[0]:
                        with self.assertRaises(Malformed):
                            a * b


class NumbersTest(unittest.TestCase):
    def test_items_told(self):
        self.assertEqual(Matrix(Ground(3), ((4, -1),)).rows, ((Residue(3, 1), Residue(3, 2)),))
        self.assertEqual(Matrix(Ground(), ((1, 2), (3, 4))).inverse().rows,
                         ((Ratio(-2), Ratio(1)), (Ratio(3, 2), Ratio(-1, 2))))
        self.assertEqual(Matrix(Ground(), ((1, 2), (3, 4))).determinant(), Ratio(-2))
        self.assertEqual(Matrix(Ground(), ((1, 2), (3, 4))).trace(), Ratio(5))
