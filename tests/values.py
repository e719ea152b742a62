"""Values that the tests share."""

from fractions import Fraction

from similarforms.ground import Ground
from similarforms.ratio import Ratio
from similarforms.residue import Residue

PRIMES = (2, 3, 5, 7, 11, 13, 17, 19, 23, 29, 31)
LARGE = 10 ** 5000


def every_value():
    """Return values of every kind that the document knows, new ones each time."""
    return [
        0, 1, -1, 2, 31, LARGE, -LARGE, "", "0", "1", "1/2", "abc", True, False, None,
        [], [0], [1, 2], [[1]], (), (0,), (1, 2), ((1,),), (None,), ["1"], ((), ()),
        Ratio(0), Ratio(1), Ratio(1, 2), Residue(2, 0), Residue(2, 1), Residue(3, 1), Residue(31, 30),
        Ground(), Ground(2), Ground(31),
        [Ratio(1), Residue(2, 1)], (Residue(2, 1), Residue(3, 1)),
    ]


def fraction(number):
    """Return a Ratio as a Fraction."""
    return Fraction(number.n, number.d)
