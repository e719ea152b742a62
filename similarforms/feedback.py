"""Feedback: the characteristic polynomials that it can give a plant."""

from similarforms.cyclic import characteristic_polynomial
from similarforms.errors import Malformed
from similarforms.linear import last_column
from similarforms.minimal import annihilator, krylov, row_at


def fixed_polynomial(plant):
    """Return the characteristic polynomial of the matrix on the states modulo the reachable space."""
    return characteristic_polynomial(plant.a) // annihilator(plant.a, plant.b)


def feedback(plant, f):
    """Return a tuple `k` for which `f` is the characteristic polynomial of `A + k b`, or None if there is none.

    Raises Malformed if `f` is over another ground, or is not monic of the degree `n`.
    """
    a = plant.a
    if f.ground != a.ground or f.degree() != len(a) or f.monic() != f:
        raise Malformed("not a monic polynomial over the ground of the degree of the size")
    fixed = fixed_polynomial(plant)
    if not (f % fixed).is_zero():
        return None
    part = krylov(a, plant.b)
    if len(part) == 0:
        # No feedback changes the matrix, and the fixed polynomial is f itself.
        return (a.ground.zero(),) * len(a)
    column = row_at(a.transposed(), last_column(part), f // fixed)
    return tuple([-x for x in column])
