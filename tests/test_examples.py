"""The examples in the document."""

import unittest

from similarforms.console import Console
from similarforms.divisor import squarefree_part
from similarforms.ground import Ground
from similarforms.matrix import Matrix
from similarforms.minimal import minimal_polynomial
from similarforms.parts import jordan_sizes
from similarforms.plant import Plant
from similarforms.poly import Poly
from similarforms.ratio import Ratio
from similarforms.reach import four_sizes


class ExamplesTest(unittest.TestCase):
    def test_ground(self):
        self.assertEqual(str(Ground(7).number(1, 2)), "4")

    def test_ratio(self):
        self.assertEqual(str(Ratio(1, 2) + Ratio(-2, 3)), "-1/6")

    def test_squarefree_part(self):
        self.assertEqual(str(squarefree_part(Poly(Ground(3), (1, 0, 0, 1)))), "(1)*x + (1)")

    def test_determinant(self):
        self.assertEqual(Matrix(Ground(5), ((1, 2), (3, 4))).determinant() == Ground(5).number(3), True)

    def test_minimal_polynomial(self):
        self.assertEqual(minimal_polynomial(Matrix(Ground(), ((2, 0), (0, 2)))).degree(), 1)

    def test_jordan_sizes(self):
        a = Matrix(Ground(), ((2, 1, 0), (0, 2, 0), (0, 0, 2)))
        self.assertEqual(jordan_sizes(a, Ground().number(2)), (2, 1))

    def test_four_sizes(self):
        self.assertEqual(four_sizes(Plant(Matrix(Ground(), ((1, 0), (0, 2))), (1, 1), (1, 0))), (1, 1, 0, 0))

    def test_console(self):
        console = Console()
        self.assertEqual(console.enter("let a = q: 0 1; -1 0").kind, "matrix")
        self.assertEqual(console.enter("minimal a").text, "(1)*x^2 + (1)")
