"""Rational numbers."""

from math import gcd

from similarforms.digits import digits_of
from similarforms.errors import Malformed, ZeroDivisor
from similarforms.powers import powered


def is_integer(value):
    """Return True if the value is an integer and not True or False."""
    return isinstance(value, int) and not isinstance(value, bool)


class Ratio:
    """The rational number `n / d` in lowest terms, `d` above 0."""

    def __init__(self, n, d=1):
        if d == 0:
            raise ZeroDivisor("the denominator is 0")
        common = gcd(n, d)
        if d < 0:
            common = -common
        self.n = n // common
        self.d = d // common

    def __add__(self, other):
        _require_ratio(other)
        return Ratio(self.n * other.d + other.n * self.d, self.d * other.d)

    def __sub__(self, other):
        _require_ratio(other)
        return Ratio(self.n * other.d - other.n * self.d, self.d * other.d)

    def __mul__(self, other):
        _require_ratio(other)
        return Ratio(self.n * other.n, self.d * other.d)

    def __neg__(self):
        return Ratio(-self.n, self.d)

    def __eq__(self, other):
        return isinstance(other, Ratio) and self.n == other.n and self.d == other.d

    def __str__(self):
        below = "" if self.d == 1 else f"/{digits_of(self.d)}"
        return f"{digits_of(self.n)}{below}"

    def is_zero(self):
        """Return True for 0."""
        return self.n == 0

    def inverse(self):
        """Return 1 divided by the number; raise ZeroDivisor for 0."""
        return Ratio(self.d, self.n)

    def over(self, b):
        """Return the number divided by `b`; raise ZeroDivisor if `b` is 0."""
        _require_ratio(b)
        return self * b.inverse()

    def power(self, k):
        """Return the power with any integer exponent; raise ZeroDivisor for 0 and a negative one."""
        if k < 0:
            return self.inverse().power(-k)
        return Ratio(powered(self.n, k, 1), powered(self.d, k, 1))


def _require_ratio(value):
    if not isinstance(value, Ratio):
        raise Malformed("a Ratio is only combined with a Ratio")
