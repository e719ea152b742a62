"""Square matrices whose parts are known, and other ones, that the tests share."""

from similarforms.ground import Ground
from similarforms.matrix import Matrix, companion, diagonal, nothing, unit
from similarforms.poly import Poly
from similarforms.residue import Residue
from tests.values import GROUNDS, some_matrix, some_row

QUADRATICS = {0: (1, 0, 1), 2: (1, 1, 1), 3: (1, 0, 1), 5: (2, 0, 1), 31: (1, 0, 1)}


def bases(ground):
    """Return x, x + 1 and an irreducible polynomial of the degree 2."""
    return Poly(ground, (0, 1)), Poly(ground, (1, 1)), Poly(ground, QUADRATICS[ground.p])


def chains(ground):
    """Return tuples of monic polynomials, each dividing the one before, with degrees of together at most 8."""
    x, y, q = bases(ground)
    third = Poly(ground, (*(3, -2, 1)[:ground.p or 3], 1))
    return [
        (), (x,), (y,), (q,), (y, y, y), (x,) * 8, (y.power(8),), (x.power(3) * y * q,), (third * x,), (third, third),
        (x * y, x), (x.power(2), x, x), (y.power(3), y.power(3)), (q, q, q), (q * q, q), (q * x.power(2), q * x, x),
        (x.power(3) * y, x.power(2) * y, x), (q * y, y, y, y), (x.power(2), x.power(2), x, x), (q * x * y.power(3), y),
    ]


def in_another_basis(a, source):
    """Return a matrix that is similar to `a`."""
    while True:
        rows = [[source.randint(-2, 2) for _ in range(len(a))] for _ in range(len(a))]
        p = Matrix(a.ground, rows, len(a))
        if not p.determinant().is_zero():
            return p * a * p.inverse()


def of_chain(ground, chain):
    return diagonal(ground, [companion(f) for f in chain])


def chained(ground, source):
    """Return pairs of a chain and a matrix with these invariant factors, in another basis."""
    return [(chain, in_another_basis(of_chain(ground, chain), source)) for chain in chains(ground)]


def squares(ground, source):
    """Return square matrices of many kinds and of all sizes from 0 on."""
    found = [matrix for _, matrix in chained(ground, source)]
    for n in range(5):
        found += [some_matrix(ground, n, n, source) for _ in range(3)]
        found += [unit(ground, n).scaled(ground.number(3)), nothing(ground, n, n), Matrix(ground, [[1] * n] * n, n)]
    x, y, q = bases(ground)
    unordered = [of_chain(ground, polys) for polys in ((x, x * x, y), (x, y, q, x), (y, y * x, x.power(3)))]
    found += unordered + [in_another_basis(a, source) for a in unordered]
    return found + [some_matrix(ground, n, n, source) for n in range(5, 9)]


def not_square(ground):
    return [nothing(ground, *size) for size in ((0, 1), (1, 0), (2, 3), (3, 2), (8, 9), (1, 64))]


def unlike_grounds():
    return [(one, other) for one in GROUNDS for other in GROUNDS if one != other]


def rows_that_do_not_fit(ground, n):
    """Return values that are no rows of `n` numbers of the ground: they have another length or other items."""
    one = ground.one()
    other = Ground(3).one() if ground.p != 3 else Ground(5).one()
    found = [(one,) * length for length in (0, 1, 2, 3, 8, 9) if length != n]
    if n > 0:
        for item in (1, 0, True, False, "1", None, other, [one], (one,), Poly(ground, (1,)), Residue(7, 1)):
            found += [(one,) * (n - 1) + (item,), [item] + [one] * (n - 1)]
    return found


def some_vectors(ground, n, source):
    """Return rows of `n` numbers, among them that of zeros and those of the unit matrix."""
    return [(ground.zero(),) * n, (ground.one(),) * n, *unit(ground, n).rows,
            *[some_row(ground, n, source) for _ in range(2)]]
