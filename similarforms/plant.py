"""Plants: linear systems with one input and one output."""

from similarforms.errors import Malformed
from similarforms.ground import taken
from similarforms.matrix import Matrix, require_square


class Plant:
    """A square matrix `a` of the size `n`, a row `b` and a column `c`, two tuples of `n` numbers of its ground."""

    def __init__(self, a, b, c):
        require_square(a)
        self.a = a
        self.b = _taken_row(a, b)
        self.c = _taken_row(a, c)

    def __eq__(self, other):
        return isinstance(other, Plant) and self.a == other.a and self.b == other.b and self.c == other.c

    def size(self):
        """Return the number of items of a state."""
        return len(self.a)

    def after(self, x, u):
        """Return the state to which the state `x` and the input `u` lead."""
        return tuple([y + u * z for y, z in zip(self.a.before(x), self.b)])

    def markov(self, k):
        """Return the number `b A^k c`, for `k` from 0 on."""
        return self._output(self.a.power(k).before(self.b))

    def outputs(self, inputs):
        """Return the tuple of the outputs at the states to which the inputs lead from the state 0.

        Raises Malformed if an item is neither a number of the ground nor an integer.
        """
        numbers = [taken(self.a.ground, u) for u in inputs]
        state = (self.a.ground.zero(),) * len(self.a)
        found = []
        for u in numbers:
            state = self.after(state, u)
            found.append(self._output(state))
        return tuple(found)

    def changed(self, p):
        """Return the plant that the Matrix `p` changes this one to.

        Raises Malformed if `p` is not square of this size over this ground, Refused("singular") if it has no inverse.
        """
        require_square(p)
        if p.ground != self.a.ground or len(p) != len(self.a):
            raise Malformed("the matrix does not fit")
        back = p.inverse()
        return Plant(p * self.a * back, back.before(self.b), p.transposed().before(self.c))

    def fed(self, k):
        """Return the plant with feedback by the column `k`; raise Malformed if it has not the form of `b`."""
        column = _taken_row(self.a, k)
        added = Matrix(self.a.ground, [[x * y for y in self.b] for x in column], len(self.a))
        return Plant(self.a + added, self.b, self.c)

    def _output(self, x):
        total = self.a.ground.zero()
        for y, z in zip(x, self.c):
            total = total + y * z
        return total


def _taken_row(a, row):
    if not isinstance(row, (list, tuple)) or len(row) != len(a):
        raise Malformed("no list or tuple of as many items as the size")
    return tuple([taken(a.ground, item) for item in row])
