"""Papers: tuples that show a rank, a minimal polynomial, similarity or a Frobenius form, for the checker."""

from similarforms.cyclic import basis_of, cyclic_parts, polynomials_of
from similarforms.linear import reduced, solve_each
from similarforms.matrix import Matrix, require_squares, unit
from similarforms.minimal import annihilator, krylov, maximal_vector
from similarforms.similar import change_or_polynomial


def rank_paper(m):
    """Return a paper of the rank of a matrix."""
    wide, pivots = reduced(m)
    left = tuple(solve_each(m, wide.rows))
    # The reduced matrix has the unit matrix at its pivots.
    right = _unit_columns(m.ground, m.width, pivots)
    tall = tuple([tuple([row[at] for at in pivots]) for row in m.rows])
    return "rank", len(wide), left, right, tall, wide.rows


def minimal_paper(a):
    """Return a paper of the minimal polynomial; raise Malformed if the matrix is not square."""
    v = maximal_vector(a)
    rows = krylov(a, v)
    columns = solve_each(rows.transposed(), unit(a.ground, len(rows)).rows)
    right = Matrix(a.ground, columns, len(a)).transposed()
    return "minimal", annihilator(a, v).row, v, right.rows


def pair_paper(a, b):
    """Return a paper that two matrices are similar, or that they are not.

    Raises Malformed if one is not square, or the grounds are unlike.
    """
    require_squares(a, b)
    if len(a) != len(b):
        return ("sizes",)
    p, g = change_or_polynomial(a, b)
    if p is not None:
        return "similar", p.rows, p.inverse().rows
    return "unlike", g.row, rank_paper(a.at(g)), rank_paper(b.at(g))


def form_paper(a):
    """Return a paper of the Frobenius form; raise Malformed if the matrix is not square."""
    parts = cyclic_parts(a)
    p = basis_of(a, parts)
    factors = tuple([f.row for f in polynomials_of(a, parts)])
    return "form", factors, p.rows, p.inverse().rows


def _unit_columns(ground, height, chosen):
    """Return the table of the columns of the unit matrix with the chosen indexes."""
    zero = ground.zero()
    one = ground.one()
    return tuple([tuple([one if at == k else zero for at in chosen]) for k in range(height)])
