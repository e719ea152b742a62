"""Invariant factors and the Frobenius form."""

from similarforms.cyclic import basis_of, cyclic_parts, polynomials_of
from similarforms.matrix import companion, diagonal


def invariant_factors(a):
    """Return the tuple of the invariant factors; raise Malformed if the matrix is not square."""
    return polynomials_of(a, cyclic_parts(a))


def frobenius_form(a):
    """Return the diagonal matrix of the companions of the invariant factors."""
    return _form_with(a.ground, invariant_factors(a))


def frobenius_change(a):
    """Return `(f, p)`: the form and a Matrix `P` with an inverse and `P A = F P`."""
    parts = cyclic_parts(a)
    form = _form_with(a.ground, polynomials_of(a, parts))
    # In each part A sends a row to the next one, and the last one to what the last row of the companion tells.
    return form, basis_of(a, parts)


def _form_with(ground, factors):
    return diagonal(ground, [companion(f) for f in factors])
