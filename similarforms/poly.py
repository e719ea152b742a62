"""Polynomials in x over a ground."""

from similarforms.errors import Malformed, ZeroDivisor
from similarforms.ground import taken
from similarforms.powers import powered


class Poly:
    """A polynomial; `row` is the tuple of its coefficients, the constant first, the last one not zero."""

    def __init__(self, ground, row):
        if not isinstance(row, (list, tuple)):
            raise Malformed("the coefficients are no list or tuple")
        numbers = [taken(ground, item) for item in row]
        while len(numbers) > 0 and numbers[-1].is_zero():
            numbers.pop()
        self.ground = ground
        self.row = tuple(numbers)

    def __add__(self, other):
        require_like(self, other)
        length = max(len(self.row), len(other.row))
        return Poly(self.ground, [self.coefficient(k) + other.coefficient(k) for k in range(length)])

    def __sub__(self, other):
        require_like(self, other)
        return self + -other

    def __mul__(self, other):
        require_like(self, other)
        zero = self.ground.zero()
        numbers = [zero for _ in range(len(self.row) + len(other.row))]
        for i, x in enumerate(self.row):
            for k, y in enumerate(other.row):
                numbers[i + k] = numbers[i + k] + x * y
        return Poly(self.ground, numbers)

    def __neg__(self):
        return Poly(self.ground, [-x for x in self.row])

    def __floordiv__(self, other):
        return _divided(self, other)[0]

    def __mod__(self, other):
        return _divided(self, other)[1]

    def __eq__(self, other):
        return isinstance(other, Poly) and self.ground == other.ground and self.row == other.row

    def __call__(self, x):
        value = self.ground.zero()
        for c in self.row[::-1]:
            value = value * x + c
        return value

    def __str__(self):
        if self.is_zero():
            return "0"
        return " + ".join([_term(self.row[k], k) for k in range(self.degree(), -1, -1) if not self.row[k].is_zero()])

    def degree(self):
        """Return the degree; it is -1 for zero."""
        return len(self.row) - 1

    def is_zero(self):
        """Return True for the polynomial zero."""
        return len(self.row) == 0

    def coefficient(self, k):
        """Return the coefficient of `x^k`, which is zero for every integer `k` below 0 or above the degree."""
        return self.row[k] if 0 <= k < len(self.row) else self.ground.zero()

    def scaled(self, c):
        """Return the polynomial times the number `c`."""
        return Poly(self.ground, [x * c for x in self.row])

    def monic(self):
        """Return the polynomial divided by its last coefficient; zero stays zero."""
        return self if self.is_zero() else self.scaled(self.row[-1].inverse())

    def derivative(self):
        """Return the derivative."""
        return Poly(self.ground, [self.row[k] * self.ground.number(k) for k in range(1, len(self.row))])

    def power(self, k):
        """Return the power with an exponent from 0 on; the power 0 is 1."""
        return powered(self, k, Poly(self.ground, (1,)))


def require_like(f, g):
    """Raise Malformed if `g` is not a polynomial over the ground of `f`."""
    if not isinstance(g, Poly) or f.ground != g.ground:
        raise Malformed("not two polynomials over one ground")


def product_of(ground, factors):
    """Return the product of polynomials over the ground, which is 1 if there are none."""
    total = Poly(ground, (1,))
    for f in factors:
        total = total * f
    return total


def _divided(f, g):
    """Return the quotient and the remainder."""
    require_like(f, g)
    if g.is_zero():
        raise ZeroDivisor("the divisor is the polynomial zero")
    factor = g.row[-1].inverse()
    numbers = list(f.row)
    quotient = []
    while len(numbers) > g.degree():
        c = numbers.pop() * factor
        shift = len(numbers) - g.degree()
        for k in range(g.degree()):
            numbers[shift + k] = numbers[shift + k] - c * g.row[k]
        quotient.append(c)
    return Poly(f.ground, quotient[::-1]), Poly(f.ground, numbers)


def _term(c, k):
    if k == 0:
        return f"({str(c)})"
    return f"({str(c)})*x" if k == 1 else f"({str(c)})*x^{k}"
