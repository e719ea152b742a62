"""Similarity of two matrices."""

from similarforms.cyclic import basis_of, cyclic_parts, polynomials_of
from similarforms.errors import Malformed
from similarforms.form import invariant_factors
from similarforms.linear import rank


def are_similar(a, b):
    """Return True if both are square, of one size, over equal grounds, and similar."""
    return _are_alike(a, b) and invariant_factors(a) == invariant_factors(b)


def find_change(a, b):
    """Return a Matrix `P` with an inverse and `P A = B P`, or None; raise Malformed as `unlike_polynomial`."""
    return change_or_polynomial(a, b)[0]


def unlike_polynomial(a, b):
    """Return a polynomial whose values at the matrices have unlike ranks, or None if they are similar.

    Raises Malformed if they are not square of one size over equal grounds.
    """
    return change_or_polynomial(a, b)[1]


def change_or_polynomial(a, b):
    """Return the pair of what `find_change` and `unlike_polynomial` return, one of which is None."""
    _require_alike(a, b)
    one = cyclic_parts(a)
    two = cyclic_parts(b)
    for f, g in zip(polynomials_of(a, one), polynomials_of(b, two)):
        if f != g:
            return None, (f if rank_at(a, f) != rank_at(b, f) else g)
    # In these two bases both matrices have the same form.
    return basis_of(b, two).inverse() * basis_of(a, one), None


def rank_at(a, g):
    """Return the rank of the value of the polynomial `g` at `a`."""
    return rank(a.at(g))


def _are_alike(a, b):
    return a.is_square() and b.is_square() and len(a) == len(b) and a.ground == b.ground


def _require_alike(a, b):
    if not _are_alike(a, b):
        raise Malformed("not two square matrices of one size over one ground")
