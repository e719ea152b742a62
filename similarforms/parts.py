"""Kernels of polynomials at a matrix, projections, eigenvalues."""

from math import isqrt, lcm

from similarforms.divisor import are_coprime, cofactors
from similarforms.errors import Malformed, Refused
from similarforms.linear import kernel, reduced
from similarforms.matrix import require_square, unit
from similarforms.minimal import minimal_polynomial
from similarforms.poly import product_of

_MOST = 1000000

# All functions raise Malformed first if the matrix is not square, or the grounds are unlike.


def kernel_part(a, f):
    """Return the reduced matrix whose rows span the kernel of the polynomial `f` at `a`."""
    return kernel(a.at(f))


def projections(a, factors):
    """Return the tuple of the projections for a list or tuple of polynomials.

    Raises Refused("coprime") if two of them are not coprime, then Refused("product") if the value of their product
    is not 0.
    """
    require_square(a)
    if not all([f.ground == a.ground for f in factors]):
        raise Malformed("a polynomial has another ground")
    if not all([are_coprime(f, g) for k, f in enumerate(factors) for g in factors[:k]]):
        raise Refused("coprime")
    if not a.at(product_of(a.ground, factors)).is_zero():
        raise Refused("product")
    return tuple([_projection(a, f, factors[:k] + factors[k + 1:]) for k, f in enumerate(factors)])


def _projection(a, f, others):
    rest = product_of(a.ground, others)
    return a.at(cofactors(rest, f)[1] * rest)


def fitting(a):
    """Return the pair of the reduced matrices that span the image and the kernel of `A^n`."""
    power = a.power(len(a))
    return reduced(power)[0], kernel(power)


def is_nilpotent(a):
    """Return True if some power is 0."""
    return a.power(len(a)).is_zero()


def eigenvalues(a):
    """Return the tuple of the eigenvalues, ascending.

    Raises Refused("large") over the rationals if the minimal polynomial, in integers without a common divisor and
    without the divisor x, has a first or last coefficient above 1000000 in absolute value.
    """
    f = minimal_polynomial(a)
    numbers = _rationals_to_try(f) if a.ground.p == 0 else a.ground.members()
    return tuple([c for c in numbers if f(c).is_zero()])


def _rationals_to_try(f):
    """Return numbers, ascending, among which all roots of a monic polynomial over the rationals are."""
    whole = 1
    for c in f.row:
        whole = lcm(whole, c.d)
    # As f is monic, no prime divides all coefficients of its multiple by the least common denominator. The first one
    # that is not 0 is the constant after the greatest power of x is divided out.
    sizes = [abs(c.n * (whole // c.d)) for c in f.row if not c.is_zero()]
    first = sizes[0]
    if first > _MOST or whole > _MOST:
        raise Refused("large")
    # In lowest terms, the numerator of a root divides the first coefficient, and the denominator the last one.
    tops = sorted({sign * n * k for n in _divisors(first) for k in _divisors(whole) for sign in (-1, 0, 1)})
    return [f.ground.number(top, whole) for top in tops]


def _divisors(n):
    low = [k for k in range(1, isqrt(n) + 1) if n % k == 0]
    return low + [n // k for k in low]


def jordan_sizes(a, c):
    """Return the Jordan sizes of the number `c`; raise Malformed if it is no number of the ground."""
    require_square(a)
    if not a.ground.is_member(c):
        raise Malformed("no number of the ground")
    step = a - unit(a.ground, len(a)).scaled(c)
    counts = []
    # The image of each power of A - c is that of the power before, mapped once more.
    image = unit(a.ground, len(a))
    smaller = reduced(step)[0]
    while len(smaller) < len(image):
        counts.append(len(image) - len(smaller))
        image, smaller = smaller, reduced(smaller * step)[0]
    many = counts[0] if len(counts) > 0 else 0
    return tuple([len([count for count in counts if count > k]) for k in range(many)])
