"""Points 0.1 to 0.3: nothing changes, equal arguments give equal results."""

import unittest

from similarforms.ground import Ground, taken
from tests.values import every_value


def states(values):
    return [(type(value), vars(value)) if hasattr(value, "__dict__") else value for value in values]


class OverviewTest(unittest.TestCase):
    def test_numbers_and_grounds_never_change(self):
        for p in (0, 2, 31):
            numbers = [Ground(p).number(n) for n in range(4)]
            before = [dict(vars(number)) for number in numbers]
            for a in numbers:
                for b in numbers[1:]:
                    for answer in (a + b, a - b, a * b, -a, a == b, str(a), a.power(2), a.is_zero()):
                        self.assertIsNot(answer, None)
            self.assertEqual([vars(number) for number in numbers], before)

    def test_equal_arguments_give_equal_results(self):
        for p in (0, 2, 31):
            self.assertEqual(Ground(p).number(2, 3), Ground(p).number(2, 3))
            self.assertEqual(taken(Ground(p), 5), taken(Ground(p), 5))
            self.assertEqual(Ground(p).read("1"), Ground(p).read("1"))

    def test_no_arguments_are_changed(self):
        for ground in (Ground(), Ground(2), Ground(31)):
            for value, twin in zip(every_value(), every_value()):
                ground.is_member(value)
                self.assertIs(ground == value, ground == twin)
                self.assertEqual(states([value]), states([twin]))
