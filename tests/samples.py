"""Square matrices whose parts are known, and other ones, that the tests share."""

from itertools import product

from similarforms.ground import Ground
from similarforms.matrix import Matrix, companion, diagonal, nothing, unit
from similarforms.plant import Plant
from similarforms.poly import Poly
from similarforms.residue import Residue
from tests.values import GROUNDS, some_matrix, some_row

QUADRATICS = {0: (1, 0, 1), 2: (1, 1, 1), 3: (1, 0, 1), 5: (2, 0, 1), 31: (1, 0, 1)}


def bases(ground):
    """Return x, x + 1 and an irreducible polynomial of the degree 2."""
    return Poly(ground, (0, 1)), Poly(ground, (1, 1)), Poly(ground, QUADRATICS[ground.p])


def chains(ground):
    """Return tuples of monic polynomials, each dividing the one before, with degrees of together at most 8."""
    x, y, q = bases(ground)
    third = Poly(ground, (*(3, -2, 1)[:ground.p or 3], 1))
    return [
        (), (x,), (y,), (q,), (y, y, y), (x,) * 8, (y.power(8),), (x.power(3) * y * q,), (third * x,), (third, third),
        (x * y, x), (x.power(2), x, x), (y.power(3), y.power(3)), (q, q, q), (q * q, q), (q * x.power(2), q * x, x),
        (x.power(3) * y, x.power(2) * y, x), (q * y, y, y, y), (x.power(2), x.power(2), x, x), (q * x * y.power(3), y),
    ]


def in_another_basis(a, source):
    """Return a matrix that is similar to `a`."""
    p = some_change(a.ground, len(a), source)
    return p * a * p.inverse()


def of_chain(ground, chain):
    return diagonal(ground, [companion(f) for f in chain])


def chained(ground, source):
    """Return pairs of a chain and a matrix with these invariant factors, in another basis."""
    return [(chain, in_another_basis(of_chain(ground, chain), source)) for chain in chains(ground)]


def squares(ground, source):
    """Return square matrices of many kinds and of all sizes from 0 on."""
    found = [matrix for _, matrix in chained(ground, source)]
    for n in range(5):
        found += [some_matrix(ground, n, n, source) for _ in range(3)]
        found += [unit(ground, n).scaled(ground.number(3)), nothing(ground, n, n), Matrix(ground, [[1] * n] * n, n)]
    x, y, q = bases(ground)
    unordered = [of_chain(ground, polys) for polys in ((x, x * x, y), (x, y, q, x), (y, y * x, x.power(3)))]
    found += unordered + [in_another_basis(a, source) for a in unordered]
    return found + [some_matrix(ground, n, n, source) for n in range(5, 9)]


def not_square(ground):
    return [nothing(ground, *size) for size in ((0, 1), (1, 0), (2, 3), (3, 2), (8, 9), (1, 64))]


def unlike_grounds():
    return [(one, other) for one in GROUNDS for other in GROUNDS if one != other]


def rows_that_do_not_fit(ground, n):
    """Return values that are no rows of `n` numbers of the ground: they have another length or other items."""
    one = ground.one()
    other = Ground(3).one() if ground.p != 3 else Ground(5).one()
    found = [(one,) * length for length in (0, 1, 2, 3, 8, 9) if length != n]
    if n > 0:
        for item in (1, 0, True, False, "1", None, other, [one], (one,), Poly(ground, (1,)), Residue(7, 1)):
            found += [(one,) * (n - 1) + (item,), [item] + [one] * (n - 1)]
    return found


def some_vectors(ground, n, source):
    """Return rows of `n` numbers, among them that of zeros and those of the unit matrix."""
    return [(ground.zero(),) * n, (ground.one(),) * n, *unit(ground, n).rows,
            *[some_row(ground, n, source) for _ in range(2)]]


def plants(ground, source):
    return [Plant(a, some_row(ground, len(a), source), some_row(ground, len(a), source))
            for a in squares(ground, source)]


def dot(ground, row, column):
    total = ground.zero()
    for x, y in zip(row, column):
        total = total + x * y
    return total


def told_markov(plant, many):
    """Return the first Markov parameters by columns: A w has the products of the rows of A and w."""
    ground, column, found = plant.a.ground, plant.c, []
    for _ in range(many):
        found.append(dot(ground, plant.b, column))
        column = tuple(dot(ground, row, column) for row in plant.a.rows)
    return found


def some_change(ground, n, source):
    """Return a matrix of the size `n` with an inverse."""
    while True:
        p = Matrix(ground, [[source.randint(-2, 2) for _ in range(n)] for _ in range(n)], n)
        if not p.determinant().is_zero():
            return p


SIZES = [(0, 0, 0, 0), (1, 0, 0, 0), (0, 1, 0, 0), (0, 0, 1, 0), (0, 0, 0, 1), (1, 1, 1, 1), (2, 1, 0, 1), (0, 2, 2, 0),
         (3, 0, 0, 0), (0, 0, 2, 1), (1, 2, 3, 2), (4, 2, 1, 1), (8, 0, 0, 0), (0, 8, 0, 0), (0, 0, 8, 0), (2, 2, 2, 2)]


def sized_plant(ground, sizes, source):
    """Return a plant with the told four sizes, in another basis."""
    x, y, _ = bases(ground)
    # The first polynomial is coprime to the second and the third one, so these parts are seen as one.
    polys = [f.power(size) for f, size in zip((x, y, y, x), sizes)]
    b, c = [], []
    for k, size in enumerate(sizes):
        b += [int(i == 0 and k in (0, 1)) for i in range(size)]
        c += [int(i == size - 1 and k in (0, 2)) for i in range(size)]
    plant = Plant(diagonal(ground, [companion(f) for f in polys]), b, c)
    return plant.changed(some_change(ground, plant.size(), source))


def all_plants(ground, source):
    """Return plants of many kinds, among them some with a row or a column of zeros."""
    found = plants(ground, source) + [sized_plant(ground, sizes, source) for sizes in SIZES]
    for a in squares(ground, source)[::7]:
        n = len(a)
        found += [Plant(a, (0,) * n, (1,) * n), Plant(a, (1,) * n, (0,) * n), Plant(a, (0,) * n, (0,) * n)]
    return found


def small_plants(p, n, count, source):
    """Return plants of the size `n` modulo `p`, among them some with zeros for the row or the column."""
    ground = Ground(p)
    found = []
    for k in range(count):
        b, c = some_row(ground, n, source), some_row(ground, n, source)
        zeros = (0,) * n
        found.append(Plant(some_matrix(ground, n, n, source), zeros if k == 0 else b, zeros if k == 1 else c))
    return found


def all_rows(ground, n):
    """Return all rows of `n` numbers, modulo a small prime."""
    return list(product(ground.members(), repeat=n))


def some_ranks(ground, source):
    """Return matrices of many heights and widths, of low and of full rank."""
    found = [some_matrix(ground, height, width, source)
             for height, width in ((1, 1), (2, 3), (3, 2), (5, 8), (8, 5), (8, 64), (1, 64), (8, 1), (4, 4), (8, 8))]
    for height, width, most in ((3, 3, 1), (5, 9, 2), (8, 8, 3), (8, 64, 2), (6, 3, 2)):
        found.append(some_matrix(ground, height, most, source) * some_matrix(ground, most, width, source))
    return found + [nothing(ground, height, width) for height, width in ((1, 1), (8, 64), (3, 5))]
