"""Common divisors and multiples of polynomials, squarefree parts, multiplicities."""

from similarforms.errors import Malformed, ZeroDivisor
from similarforms.poly import Poly, require_like


def common_divisor(f, g):
    """Return the greatest common divisor, which is monic, or zero if both are zero."""
    require_like(f, g)
    f = f.monic()
    g = g.monic()
    while not g.is_zero():
        # Monic remainders keep the numerators and denominators short.
        f, g = g, (f % g).monic()
    return f


def common_multiple(f, g):
    """Return the least common multiple, which is monic, or zero if one of them is zero."""
    require_like(f, g)
    if f.is_zero() or g.is_zero():
        return Poly(f.ground, ())
    return (f // common_divisor(f, g) * g).monic()


def are_coprime(f, g):
    """Return True if the greatest common divisor is 1."""
    return common_divisor(f, g).degree() == 0


def cofactors(f, g):
    """Return `(d, u, v)`: the greatest common divisor and polynomials with `d = u f + v g`."""
    require_like(f, g)
    one = Poly(f.ground, (1,))
    nothing = Poly(f.ground, ())
    # In each of these triples the first one is the second one times f and the third one times g.
    old = _first_monic((f, one, nothing))
    new = _first_monic((g, nothing, one))
    while not new[0].is_zero():
        quotient = old[0] // new[0]
        rest = tuple([before - quotient * now for before, now in zip(old, new)])
        old, new = new, _first_monic(rest)
    return old


def _first_monic(triple):
    if triple[0].is_zero():
        return triple
    factor = triple[0].row[-1].inverse()
    return tuple([f.scaled(factor) for f in triple])


def squarefree_part(f):
    """Return the product of the unlike monic irreducible divisors; raise ZeroDivisor for zero."""
    if f.is_zero():
        raise ZeroDivisor("zero has no squarefree part")
    f = f.monic()
    if f.degree() == 0:
        return f
    slope = f.derivative()
    if slope.is_zero():
        return squarefree_part(_root(f))
    left = common_divisor(f, slope)
    found = f // left
    shared = common_divisor(left, found)
    while shared.degree() > 0:
        left = left // shared
        shared = common_divisor(left, found)
    return found * squarefree_part(left)


def _root(f):
    """Return the polynomial whose p-th power is `f`, a polynomial in `x^p`."""
    return Poly(f.ground, f.row[::f.ground.p])


def multiplicity(f, g):
    """Return the greatest `k` for which `g^k` divides `f`.

    Raises ZeroDivisor if `f` is zero, then Malformed if the degree of `g` is not positive.
    """
    require_like(f, g)
    if f.is_zero():
        raise ZeroDivisor("all powers divide zero")
    if g.degree() < 1:
        raise Malformed("the divisor has no positive degree")
    k = 0
    while (f % g).is_zero():
        f = f // g
        k += 1
    return k
