"""Similarity of two matrices."""

from similarforms.errors import Malformed
from similarforms.form import frobenius_change, invariant_factors
from similarforms.linear import rank


def are_similar(a, b):
    """Return True if both are square, of one size, over equal grounds, and similar."""
    return _are_alike(a, b) and invariant_factors(a) == invariant_factors(b)


def find_change(a, b):
    """Return a Matrix `P` with an inverse and `P A = B P`, or None; raise Malformed as `unlike_polynomial`."""
    _require_alike(a, b)
    form, p = frobenius_change(a)
    other, q = frobenius_change(b)
    return q.inverse() * p if form == other else None


def unlike_polynomial(a, b):
    """Return a polynomial whose values at the matrices have unlike ranks, or None if they are similar.

    Raises Malformed if they are not square of one size over equal grounds.
    """
    _require_alike(a, b)
    for f, g in zip(invariant_factors(a), invariant_factors(b)):
        if f != g:
            return f if rank_at(a, f) != rank_at(b, f) else g
    return None


def rank_at(a, g):
    """Return the rank of the value of the polynomial `g` at `a`."""
    return rank(a.at(g))


def _are_alike(a, b):
    return a.is_square() and b.is_square() and len(a) == len(b) and a.ground == b.ground


def _require_alike(a, b):
    if not _are_alike(a, b):
        raise Malformed("not two square matrices of one size over one ground")
