"""Numbers modulo a small prime."""

from similarforms.errors import Malformed, ZeroDivisor
from similarforms.powers import powered
from similarforms.ratio import is_integer

_PRIMES = (2, 3, 5, 7, 11, 13, 17, 19, 23, 29, 31)


def is_small_prime(value):
    """Return True for the primes from 2 to 31, for every value."""
    return is_integer(value) and value in _PRIMES


class Residue:
    """The number `n` modulo the prime `p`, with `n` from 0 to `p - 1`."""

    def __init__(self, p, n):
        if not is_small_prime(p):
            raise Malformed("the modulus is no prime from 2 to 31")
        if not is_integer(n):
            raise Malformed("the number is no integer")
        self.p = p
        self.n = n % p

    def __add__(self, other):
        _require_like(self, other)
        return Residue(self.p, self.n + other.n)

    def __sub__(self, other):
        _require_like(self, other)
        return Residue(self.p, self.n - other.n)

    def __mul__(self, other):
        _require_like(self, other)
        return Residue(self.p, self.n * other.n)

    def __neg__(self):
        return Residue(self.p, -self.n)

    def __eq__(self, other):
        return isinstance(other, Residue) and self.p == other.p and self.n == other.n

    def __str__(self):
        return str(self.n)

    def is_zero(self):
        """Return True for 0."""
        return self.n == 0

    def inverse(self):
        """Return 1 divided by the number; raise ZeroDivisor for 0."""
        if self.n == 0:
            raise ZeroDivisor("0 has no inverse")
        # The power p - 1 of each other number is 1.
        return self.power(self.p - 2)

    def over(self, b):
        """Return the number divided by `b`; raise ZeroDivisor if `b` is 0."""
        _require_like(self, b)
        return self * b.inverse()

    def power(self, k):
        """Return the power with any integer exponent; raise ZeroDivisor for 0 and a negative one."""
        if k < 0:
            return self.inverse().power(-k)
        return powered(self, k, Residue(self.p, 1))


def _require_like(one, other):
    if not isinstance(other, Residue) or one.p != other.p:
        raise Malformed("a Residue is only combined with a Residue of the same prime")
