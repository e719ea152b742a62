"""Minimal polynomials of rows and of matrices, maximal vectors, invariant spaces."""

from similarforms.divisor import common_divisor, common_multiple
from similarforms.eliminate import eliminated, is_zero_row, with_unit
from similarforms.errors import Malformed
from similarforms.linear import solve_each
from similarforms.matrix import Matrix, images, require_square, unit
from similarforms.poly import Poly

# Each public function that takes rows raises Malformed if the matrix is not square or a row is none of its rows.


def annihilator(a, v):
    """Return the minimal polynomial of the row `v`."""
    _require_row(a, v)
    return first_relation(a.ground, images(a, v, len(a) + 1))


def minimal_polynomial(a):
    """Return the minimal polynomial of the matrix."""
    return _maximal(a)[1]


def maximal_vector(a):
    """Return a row whose minimal polynomial is that of the matrix."""
    return _maximal(a)[0]


def joined_row(a, one, two):
    """Return a row whose minimal polynomial is the least common multiple of those of the two rows."""
    return _joined(a, one, annihilator(a, one), two, annihilator(a, two))


def krylov(a, v):
    """Return the Matrix with the rows `v, v A, .., v A^(d-1)`, with the degree `d` of the annihilator of `v`."""
    degree = annihilator(a, v).degree()
    return Matrix(a.ground, images(a, v, degree), len(a))


def is_invariant(a, space):
    """Return True if the span of the rows of the Matrix `space` is invariant."""
    require_rows(a, space)
    found = solve_each(space, [a.before(row) for row in space.rows])
    return all([row is not None for row in found])


def krylov_space(a, space):
    """Return the reduced matrix of the least invariant space that holds the rows of the Matrix `space`."""
    require_rows(a, space)
    # No row has a minimal polynomial of a degree above the size, so later images give nothing new.
    rows = [image for row in space.rows for image in images(a, row, len(a))]
    return Matrix(a.ground, eliminated(rows, len(a))[0], len(a))


def first_relation(ground, rows):
    """Return the monic polynomial of least degree whose coefficients times the rows, in order, have the sum 0.

    The rows are more than the items of each one.
    """
    width = len(rows[0])
    # The first of the rows that is left without a pivot is the first one that depends on those before it.
    rest = eliminated(with_unit(ground, rows), width)[1]
    return Poly(ground, rest[0][width:])


def column_images(a, w, count):
    """Return the Matrix with the first `count` columns of `w, A w, A^2 w, ..`."""
    return Matrix(a.ground, images(a.transposed(), w, count), len(a)).transposed()


def row_at(a, v, f):
    """Return the product of the row `v` and the value of the polynomial `f` at `a`."""
    total = [a.ground.zero() for _ in range(len(a))]
    for c in f.row[::-1]:
        total = [x + c * y for x, y in zip(a.before(total), v)]
    return tuple(total)


def require_rows(a, space):
    """Raise Malformed if `a` is not square, or a row of the Matrix `space` is none of its rows."""
    require_square(a)
    for row in space.rows:
        _require_row(a, row)


def _require_row(a, v):
    require_square(a)
    fits = isinstance(v, (list, tuple)) and len(v) == len(a)
    if not fits or not all([a.ground.is_member(x) for x in v]):
        raise Malformed("not a row of as many numbers of the ground as the size")


def _maximal(a):
    """Return a maximal vector and its minimal polynomial."""
    require_square(a)
    row = (a.ground.zero(),) * len(a)
    f = Poly(a.ground, (1,))
    for other in unit(a.ground, len(a)).rows:
        # Where f takes a row to 0 there is nothing to join; to leave it out keeps the numbers short.
        if not is_zero_row(row_at(a, other, f)):
            g = annihilator(a, other)
            row = _joined(a, row, f, other, g)
            f = common_multiple(f, g)
    return row, f


def _joined(a, one, f, two, g):
    """Return a row with the least common multiple of `f` and `g`, the minimal polynomials of the two rows."""
    mine = f // common_divisor(f, g)
    yours = g
    shared = common_divisor(mine, yours)
    # In the end mine divides f, yours divides g, they are coprime, and their product is the least common multiple.
    while shared.degree() > 0:
        mine = mine * shared
        yours = yours // shared
        shared = common_divisor(mine, yours)
    left = row_at(a, one, f // mine)
    right = row_at(a, two, g // yours)
    return tuple([x + y for x, y in zip(left, right)])
