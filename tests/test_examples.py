"""The examples in the document."""

import unittest

from similarforms.ground import Ground
from similarforms.ratio import Ratio


class ExamplesTest(unittest.TestCase):
    def test_ground(self):
        self.assertEqual(str(Ground(7).number(1, 2)), "4")

    def test_ratio(self):
        self.assertEqual(str(Ratio(1, 2) + Ratio(-2, 3)), "-1/6")
