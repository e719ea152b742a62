"""The semisimple and the nilpotent summand of a matrix."""

from similarforms.divisor import cofactors, squarefree_part
from similarforms.minimal import minimal_polynomial
from similarforms.poly import Poly

# All functions raise Malformed if the matrix is not square.


def is_semisimple(a):
    """Return True if the minimal polynomial is squarefree."""
    f = minimal_polynomial(a)
    return squarefree_part(f) == f


def summands(a):
    """Return the pair `(S, N)` with `A = S + N` and `S N = N S`, `S` semisimple and `N` nilpotent."""
    s = a.at(summand_polynomial(a))
    return s, a - s


def summand_polynomial(a):
    """Return the polynomial of a degree below that of the minimal polynomial whose value at `a` is `S`."""
    f = minimal_polynomial(a)
    q = squarefree_part(f)
    u = cofactors(q.derivative(), q)[1]
    s = Poly(a.ground, (0, 1)) % f
    error = _composed(q, s, f)
    # Each step makes the error a multiple of its square, and it is nilpotent modulo f.
    while not error.is_zero():
        s = (s - error * _composed(u, s, f)) % f
        error = _composed(q, s, f)
    return s


def _composed(g, s, f):
    """Return the polynomial `g` with `s` in the place of `x`, modulo `f`."""
    total = Poly(f.ground, ())
    for c in g.row[::-1]:
        total = (total * s + Poly(f.ground, (c,))) % f
    return total
