"""Matrices that commute with a matrix, and all `X` with `A X = X B`."""

from similarforms.cyclic import basis_of, cyclic_parts, polynomials_of
from similarforms.divisor import common_divisor
from similarforms.eliminate import eliminated
from similarforms.errors import Malformed
from similarforms.form import invariant_factors
from similarforms.linear import kernel, solve
from similarforms.matrix import Matrix, images, require_squares
from similarforms.minimal import krylov, maximal_vector, minimal_polynomial
from similarforms.poly import Poly

# All functions raise Malformed if a matrix is not square, or the grounds are unlike.


def intertwiners(a, b):
    """Return the basis of the matrices `X` with `A X = X B` whose rows of items are a reduced matrix, in this order."""
    require_squares(a, b)
    parts = cyclic_parts(a)
    back = basis_of(a, parts).inverse()
    told = [back * y for y in _from_form(a, b, polynomials_of(a, parts))]
    rows = [[x for row in m.rows for x in row] for m in told]
    done = eliminated(rows, len(a) * len(b))[0]
    return tuple([_folded(a, b, row) for row in done])


def commutant(a):
    """Return the basis as in `intertwiners` of the matrices that commute with `a`."""
    return intertwiners(a, a)


def intertwiner_dimension(a, b):
    """Return the dimension of the space of `intertwiners`, by the invariant factors."""
    require_squares(a, b)
    others = invariant_factors(b)
    return sum([common_divisor(f, g).degree() for f in invariant_factors(a) for g in others])


def commutant_dimension(a):
    """Return the dimension of the space of the matrices that commute with `a`, by the invariant factors."""
    return sum([(2 * i + 1) * f.degree() for i, f in enumerate(invariant_factors(a))])


def commute(a, b):
    """Return True if `a b = b a`; raise Malformed also for unlike sizes."""
    _require_one_size(a, b)
    return a * b == b * a


def polynomial_of(a, x):
    """Return the polynomial of a degree below that of the minimal polynomial whose value at `a` is `x`, or None.

    Raises Malformed also for unlike sizes.
    """
    _require_one_size(a, x)
    # The value takes a maximal vector to one combination of its images at most.
    v = maximal_vector(a)
    row = solve(krylov(a, v), x.before(v))
    if row is None:
        return None
    h = Poly(a.ground, row)
    return h if a.at(h) == x else None


def is_cyclic(a):
    """Return True if `a` has at most one invariant factor."""
    return minimal_polynomial(a).degree() == len(a)


def _from_form(a, b, factors):
    """Return a basis of the matrices `Y` with `F Y = Y B`, for the form `F` with these factors, similar to `a`."""
    found = []
    above = 0
    for f in factors:
        below = len(a) - above - f.degree()
        # The rows of Y at a companion are the images of the first one, which f takes to 0.
        for row in kernel(b.at(f)).rows:
            rows = _zeros(b, above) + images(b, row, f.degree()) + _zeros(b, below)
            found.append(Matrix(a.ground, rows, len(b)))
        above = above + f.degree()
    return found


def _zeros(b, count):
    return [(0,) * len(b)] * count


def _folded(a, b, row):
    """Return the matrix with this row of items, with as many rows as `a` and the width of `b`."""
    width = len(b)
    return Matrix(a.ground, [row[k * width:(k + 1) * width] for k in range(len(a))], width)


def _require_one_size(a, b):
    require_squares(a, b)
    if len(a) != len(b):
        raise Malformed("the sizes are unlike")
