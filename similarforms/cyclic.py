"""Splitting a matrix into cyclic parts, and its characteristic polynomial."""

from similarforms.errors import Malformed, Refused
from similarforms.linear import kernel, last_column, rank, solve_each
from similarforms.matrix import Matrix, require_square, unit
from similarforms.minimal import annihilator, column_images, krylov, maximal_vector, require_rows
from similarforms.poly import product_of


def characteristic_polynomial(a):
    """Return the characteristic polynomial; raise Malformed if the matrix is not square."""
    return product_of(a.ground, polynomials_of(a, cyclic_parts(a)))


def polynomials_of(a, parts):
    """Return the tuple of the minimal polynomials that belong to the cyclic parts of `a`."""
    return tuple([annihilator(a, part.rows[0]) for part in parts])


def split_off(a):
    """Return `(part, rest)`: the Krylov matrix of a maximal vector, and a basis of an invariant space beside it.

    Raises Refused("empty") for the size 0.
    """
    require_square(a)
    if len(a) == 0:
        raise Refused("empty")
    part = krylov(a, maximal_vector(a))
    # The column meets the last row of the part alone, so only 0 in the part meets none of the column's images.
    return part, kernel(column_images(a, last_column(part), len(part)))


def restricted(a, space):
    """Return the square matrix `B` with `S A = B S`, for the Matrix `S` = `space`.

    Raises Malformed if `a` is not square or a row does not fit, Refused("invariant") if the span is not invariant,
    then Malformed if the rows are dependent.
    """
    require_rows(a, space)
    rows = solve_each(space, [a.before(row) for row in space.rows])
    if any([row is None for row in rows]):
        raise Refused("invariant")
    if rank(space) < len(space):
        raise Malformed("the rows are dependent")
    return Matrix(a.ground, rows, len(space))


def cyclic_parts(a):
    """Return the tuple of the Krylov matrices of maximal vectors that splitting again and again gives, in order."""
    require_square(a)
    parts = []
    space = unit(a.ground, len(a))
    left = a
    while len(left) > 0:
        part, rest = split_off(left)
        # Both are told in the basis of the space that is left.
        parts.append(part * space)
        space = rest * space
        left = restricted(left, rest)
    return tuple(parts)


def basis_of(a, parts):
    """Return the Matrix with the rows of the cyclic parts of `a`, in order."""
    return Matrix(a.ground, [row for part in parts for row in part.rows], len(a))
