"""Grounds: the rationals, and the numbers modulo a small prime."""

from similarforms.digits import integer_with, natural_with
from similarforms.errors import Malformed, NoText, Refused
from similarforms.ratio import Ratio, is_integer
from similarforms.residue import Residue, is_small_prime


class Ground:
    """The rationals for the `p` 0, otherwise the numbers modulo the prime `p`."""

    def __init__(self, p=0):
        if not (is_integer(p) and p == 0) and not is_small_prime(p):
            raise Malformed("a ground is told by 0 or by a prime from 2 to 31")
        self.p = p

    def __eq__(self, other):
        return isinstance(other, Ground) and self.p == other.p

    def number(self, n, d=1):
        """Return the number `n / d` for two integers; raise ZeroDivisor if `d` is 0 in the ground."""
        if self.p == 0:
            return Ratio(n, d)
        number = Residue(self.p, n)
        return number if d == 1 else number.over(Residue(self.p, d))

    def zero(self):
        """Return the number 0."""
        return self.number(0)

    def one(self):
        """Return the number 1."""
        return self.number(1)

    def is_member(self, value):
        """Return True if the value is a number of the ground, for every value."""
        if self.p == 0:
            return isinstance(value, Ratio)
        return isinstance(value, Residue) and value.p == self.p

    def members(self):
        """Return the tuple of all numbers, ascending; raise Refused("many") for the rationals."""
        if self.p == 0:
            raise Refused("many")
        return tuple([Residue(self.p, n) for n in range(self.p)])

    def read(self, text):
        """Return the number with this written form; raise NoText(0) if there is none, for every value."""
        number = _ratio_with(text) if self.p == 0 else _member_with(self.members(), text)
        if number is None:
            raise NoText(0)
        return number


def taken(ground, item):
    """Return a number of the ground as it is, and the number of an integer; raise Malformed for other values."""
    if ground.is_member(item):
        return item
    if is_integer(item):
        return ground.number(item)
    raise Malformed("neither a number of the ground nor an integer")


def _ratio_with(text):
    if not isinstance(text, str):
        return None
    above, slash, below = text.partition("/")
    n = integer_with(above)
    d = natural_with(below) if slash == "/" else 1
    if n is None or d is None or d == 0:
        return None
    number = Ratio(n, d)
    # Leading zeros, -0 and terms that are not the lowest were let through so far.
    return number if str(number) == text else None


def _member_with(members, text):
    for number in members:
        if str(number) == text:
            return number
    return None
