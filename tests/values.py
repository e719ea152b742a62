"""Values that the tests share."""

from fractions import Fraction

from similarforms.console import Console
from similarforms.ground import Ground
from similarforms.matrix import Matrix
from similarforms.plant import Plant
from similarforms.poly import Poly
from similarforms.ratio import Ratio
from similarforms.replies import Reply
from similarforms.residue import Residue

PRIMES = (2, 3, 5, 7, 11, 13, 17, 19, 23, 29, 31)
GROUNDS = (Ground(), Ground(2), Ground(3), Ground(5), Ground(31))
LARGE = 10 ** 5000


def every_value():
    """Return values of every kind that the document knows, new ones each time."""
    return [
        0, 1, -1, 2, 31, LARGE, -LARGE, "", "0", "1", "1/2", "abc", True, False, None,
        [], [0], [1, 2], [[1]], (), (0,), (1, 2), ((1,),), (None,), ["1"], ((), ()),
        Ratio(0), Ratio(1), Ratio(1, 2), Residue(2, 0), Residue(2, 1), Residue(3, 1), Residue(31, 30),
        Ground(), Ground(2), Ground(31), Poly(Ground(), ()), Poly(Ground(3), (1, 2)),
        Matrix(Ground(), ()), Matrix(Ground(2), ((1, 0), (0, 1))),
        [Ratio(1), Residue(2, 1)], (Residue(2, 1), Residue(3, 1)),
        Plant(Matrix(Ground(), ()), (), ()), Plant(Matrix(Ground(2), ((1,),)), (1,), (0,)),
        Reply("done"), Reply("number", "1", (1, Ratio(1, 2))), Console(), Console(most=0),
    ]


def fraction(number):
    """Return a Ratio as a Fraction."""
    return Fraction(number.n, number.d)


def some(ground, source):
    """Return a number of the ground, small and often zero."""
    if source.random() < 0.3:
        return ground.zero()
    if ground.p == 0:
        return ground.number(source.randint(-6, 6), source.randint(1, 4))
    return ground.number(source.randint(0, ground.p - 1))


def some_row(ground, length, source):
    return tuple(some(ground, source) for _ in range(length))


def some_matrix(ground, height, width, source):
    return Matrix(ground, [some_row(ground, width, source) for _ in range(height)], width)


def some_poly(ground, degree, source):
    """Return a polynomial of at most this degree, for a degree from -1 on."""
    return Poly(ground, some_row(ground, degree + 1, source))


def same_object_state(value):
    """Return all that an object of the program is made of, as plain values, to compare it later."""
    if isinstance(value, (Ratio, Residue, Ground, Poly, Matrix, Plant, Reply, Console)):
        return (type(value).__name__, tuple((k, same_object_state(v)) for k, v in sorted(vars(value).items())))
    if isinstance(value, dict):
        return (type(value).__name__, tuple((k, same_object_state(v)) for k, v in value.items()))
    if isinstance(value, (list, tuple)):
        return (type(value).__name__, tuple(same_object_state(item) for item in value))
    return (type(value).__name__, value)
