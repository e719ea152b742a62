"""The checker of papers: it forms products and values, and compares. Any value may be given for a paper."""

from similarforms.matrix import Matrix, combination, companion, diagonal, images, unit
from similarforms.poly import Poly
from similarforms.ratio import is_integer


def takes_rank(m, paper):
    """Return True if the value is a paper of the rank of `m`."""
    if not _is_paper(paper, "rank", 6):
        return False
    _, r, left, right, tall, wide = paper
    ground = m.ground
    # No rank is above the number of rows; so what is left has at most as many rows as a Matrix may have.
    if not is_integer(r) or r < 0 or r > len(m):
        return False
    if not _is_table(ground, left, r, len(m)) or not _is_table(ground, right, m.width, r):
        return False
    if not _is_table(ground, tall, len(m), r) or not _is_table(ground, wide, r, m.width):
        return False
    middle = Matrix(ground, left, len(m)) * m
    # The table on the right may have too many rows for a Matrix.
    shown = tuple([combination(ground, row, right, r) for row in middle.rows])
    return shown == unit(ground, r).rows and Matrix(ground, tall, r) * Matrix(ground, wide, m.width) == m


def takes_minimal(a, paper):
    """Return True if the value is a paper of the minimal polynomial of the square matrix `a`."""
    if not _is_paper(paper, "minimal", 4):
        return False
    _, row, v, right = paper
    ground = a.ground
    # No minimal polynomial has a degree above the size.
    if not _is_monic(ground, row) or len(row) > len(a) + 1:
        return False
    degree = len(row) - 1
    if not _is_row(ground, v, len(a)) or not _is_table(ground, right, len(a), degree):
        return False
    if not a.at(Poly(ground, row)).is_zero():
        return False
    rows = Matrix(ground, images(a, v, degree), len(a))
    return rows * Matrix(ground, right, degree) == unit(ground, degree)


def takes_pair(a, b, paper):
    """Return True if the value is a paper for two square matrices over one ground."""
    if len(a) != len(b):
        return _is_paper(paper, "sizes", 1)
    return _takes_similar(a, b, paper) or _takes_unlike(a, b, paper)


def takes_form(a, paper):
    """Return True if the value is a paper of the form of the square matrix `a`."""
    if not _is_paper(paper, "form", 4) or not _are_inverse(a.ground, len(a), paper[2:]):
        return False
    factors = paper[1]
    if not isinstance(factors, tuple) or not all([_is_monic(a.ground, row) and len(row) > 1 for row in factors]):
        return False
    if sum([len(row) - 1 for row in factors]) != len(a):
        return False
    polys = [Poly(a.ground, row) for row in factors]
    if not all([(f % g).is_zero() for f, g in zip(polys, polys[1:])]):
        return False
    p = Matrix(a.ground, paper[2], len(a))
    q = Matrix(a.ground, paper[3], len(a))
    return p * a * q == diagonal(a.ground, [companion(f) for f in polys])


def _takes_similar(a, b, paper):
    if not _is_paper(paper, "similar", 3) or not _are_inverse(a.ground, len(a), paper[1:]):
        return False
    p = Matrix(a.ground, paper[1], len(a))
    return p * a == b * p


def _takes_unlike(a, b, paper):
    if not _is_paper(paper, "unlike", 4):
        return False
    _, row, one, two = paper
    # The empty row is left out: the value of zero has the rank 0 at both.
    if not _is_polynomial(a.ground, row):
        return False
    g = Poly(a.ground, row)
    return takes_rank(a.at(g), one) and takes_rank(b.at(g), two) and one[1] != two[1]


def _is_paper(value, word, length):
    return isinstance(value, tuple) and len(value) == length and value[0] == word


def _is_row(ground, value, length):
    return isinstance(value, tuple) and len(value) == length and all([ground.is_member(x) for x in value])


def _is_table(ground, value, height, width):
    fits = isinstance(value, tuple) and len(value) == height
    return fits and all([_is_row(ground, row, width) for row in value])


def _is_polynomial(ground, value):
    """Return True for the row of coefficients of a polynomial other than zero."""
    fits = isinstance(value, tuple) and len(value) > 0
    return fits and _is_row(ground, value, len(value)) and not value[-1].is_zero()


def _is_monic(ground, value):
    return _is_polynomial(ground, value) and value[-1] == ground.one()


def _are_inverse(ground, n, pair):
    """Return True if both are tables of the size `n` whose product is the unit matrix."""
    if not all([_is_table(ground, table, n, n) for table in pair]):
        return False
    return Matrix(ground, pair[0], n) * Matrix(ground, pair[1], n) == unit(ground, n)
