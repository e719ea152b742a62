"""Reduced matrices, ranks, kernels and right sides."""

from similarforms.eliminate import cleared, eliminated, is_zero_row, with_unit
from similarforms.errors import Malformed
from similarforms.matrix import Matrix, unit


def reduced(m):
    """Return `(r, pivots)`: the reduced matrix with the span of the rows of `m`, and the tuple of its pivots."""
    done, _, pivots = eliminated(m.rows, m.width)
    return Matrix(m.ground, done, m.width), tuple(pivots)


def rank(m):
    """Return the rank."""
    return len(eliminated(m.rows, m.width)[2])


def kernel(m):
    """Return the reduced matrix whose rows span the rows `v` with `v m = 0`."""
    # What stands beside a row of zeros tells which combination of the rows of m it is.
    rest = eliminated(with_unit(m.ground, m.rows), m.width)[1]
    done = eliminated([row[m.width:] for row in rest], len(m))[0]
    return Matrix(m.ground, done, len(m))


def solve(m, w):
    """Return a row `v` with `v m = w`, or None if there is none; raise Malformed if `w` has another length."""
    return solve_each(m, (w,))[0]


def solve_each(m, sides):
    """Return the list of what `solve` returns for each one of the right sides."""
    if not all([len(w) == m.width for w in sides]):
        raise Malformed("the right side does not fit")
    done, _, pivots = eliminated(with_unit(m.ground, m.rows), m.width)
    return [_combination(m, w, done, pivots) for w in sides]


def last_column(m):
    """Return a column whose product with the last row of `m` is 1, and 0 with each other one.

    The rows are independent, and there is one at least.
    """
    return solve(m.transposed(), unit(m.ground, len(m)).rows[-1])


def _combination(m, w, done, pivots):
    zero = m.ground.zero()
    left = list(w) + [zero for _ in range(len(m))]
    for row, pivot in zip(done, pivots):
        left = cleared(left, row, pivot)
    if not is_zero_row(left[:m.width]):
        return None
    # What was subtracted from w stands behind it, with the other sign.
    return tuple([-x for x in left[m.width:]])


def span_holds(m, w):
    """Return True if the row `w` is in the span of the rows of `m`; raise Malformed if it has another length."""
    return solve(m, w) is not None


def same_span(a, b):
    """Return True if the grounds, the widths and the spans of the rows are equal."""
    return reduced(a)[0] == reduced(b)[0]
