"""Matrices over a ground, with at most 8 rows and a width of at most 64."""

from similarforms.eliminate import determinant_of, eliminated, with_unit
from similarforms.errors import Malformed, Refused
from similarforms.ground import taken
from similarforms.powers import powered
from similarforms.ratio import is_integer

_MOST_ROWS = 8
_MOST_WIDTH = 64


class Matrix:
    """A matrix; `rows` is a tuple of tuples of numbers of the ground, each of the length `width`."""

    def __init__(self, ground, rows, width=None):
        tuples = _taken_rows(ground, rows)
        size = _width_of(tuples, width)
        if len(tuples) > _MOST_ROWS or size > _MOST_WIDTH:
            raise Refused("large")
        self.ground = ground
        self.rows = tuples
        self.width = size

    def __add__(self, other):
        _require_like(self, other)
        if len(self) != len(other) or self.width != other.width:
            raise Malformed("the sizes are unlike")
        rows = [[x + y for x, y in zip(mine, yours)] for mine, yours in zip(self.rows, other.rows)]
        return Matrix(self.ground, rows, self.width)

    def __sub__(self, other):
        _require_like(self, other)
        return self + -other

    def __mul__(self, other):
        _require_like(self, other)
        if self.width != len(other):
            raise Malformed("the width is not the number of rows of the other matrix")
        return Matrix(self.ground, [other.before(row) for row in self.rows], other.width)

    def __neg__(self):
        return Matrix(self.ground, [[-x for x in row] for row in self.rows], self.width)

    def __eq__(self, other):
        return (isinstance(other, Matrix) and self.ground == other.ground
                and self.rows == other.rows and self.width == other.width)

    def __len__(self):
        return len(self.rows)

    def scaled(self, c):
        """Return the matrix times the number `c`."""
        return Matrix(self.ground, [[x * c for x in row] for row in self.rows], self.width)

    def before(self, row):
        """Return the product of a row and the matrix; raise Malformed if the row has another length."""
        if len(row) != len(self):
            raise Malformed("the row does not fit")
        return combination(self.ground, row, self.rows, self.width)

    def transposed(self):
        """Return the transposed matrix; raise Refused("large") for more than 8 columns."""
        columns = [[row[k] for row in self.rows] for k in range(self.width)]
        return Matrix(self.ground, columns, len(self))

    def is_square(self):
        """Return True if there are as many rows as columns."""
        return len(self) == self.width

    def is_zero(self):
        """Return True if all items are 0, also without items."""
        return all([x.is_zero() for row in self.rows for x in row])

    def power(self, k):
        """Return the power with an exponent from 0 on; raise Malformed if the matrix is not square."""
        require_square(self)
        return powered(self, k, unit(self.ground, len(self)))

    def trace(self):
        """Return the sum of the items of the diagonal; raise Malformed if the matrix is not square."""
        require_square(self)
        total = self.ground.zero()
        for k, row in enumerate(self.rows):
            total = total + row[k]
        return total

    def determinant(self):
        """Return the determinant; raise Malformed if the matrix is not square."""
        require_square(self)
        return determinant_of(self.rows, self.ground.one())

    def at(self, f):
        """Return the value of the polynomial `f`; raise Malformed if the matrix is not square or the ground unlike."""
        require_square(self)
        if self.ground != f.ground:
            raise Malformed("the polynomial has another ground")
        one = unit(self.ground, len(self))
        value = nothing(self.ground, len(self), len(self))
        for c in f.row[::-1]:
            value = value * self + one.scaled(c)
        return value

    def inverse(self):
        """Return the inverse; raise Malformed if the matrix is not square, Refused("singular") if there is none."""
        require_square(self)
        done = eliminated(with_unit(self.ground, self.rows), self.width)[0]
        if len(done) < len(self):
            raise Refused("singular")
        return Matrix(self.ground, [row[self.width:] for row in done], self.width)


def unit(ground, n):
    """Return the unit matrix of the size `n`."""
    return Matrix(ground, [[1 if i == k else 0 for i in range(n)] for k in range(n)], n)


def nothing(ground, height, width):
    """Return the matrix of zeros with so many rows of this width."""
    return Matrix(ground, [(0,) * width] * height, width)


def companion(f):
    """Return the companion of a monic polynomial; raise Malformed if `f` is not monic."""
    degree = f.degree()
    if f.coefficient(degree) != f.ground.one():
        raise Malformed("the polynomial is not monic")
    rows = [[1 if i == k + 1 else 0 for i in range(degree)] for k in range(degree - 1)]
    last = [[-c for c in f.row[:degree]]] if degree > 0 else []
    return Matrix(f.ground, rows + last, degree)


def diagonal(ground, parts):
    """Return the matrix with these square matrices along the diagonal, in order, and 0 elsewhere."""
    size = sum([len(part) for part in parts])
    rows = []
    for part in parts:
        left = [0] * len(rows)
        right = [0] * (size - len(rows) - len(part))
        rows = rows + [left + list(row) + right for row in part.rows]
    return Matrix(ground, rows, size)


def combination(ground, factors, rows, width):
    """Return the sum of the rows, of this width, times as many numbers."""
    zero = ground.zero()
    total = [zero for _ in range(width)]
    for factor, row in zip(factors, rows):
        if not factor.is_zero():
            total = [x + factor * y for x, y in zip(total, row)]
    return tuple(total)


def images(a, v, count):
    """Return the list of the first `count` rows of `v, v A, v A^2, ..`."""
    rows = []
    row = tuple(v)
    for _ in range(count):
        rows.append(row)
        row = a.before(row)
    return rows


def _taken_rows(ground, rows):
    if not isinstance(rows, (list, tuple)) or not all([isinstance(row, (list, tuple)) for row in rows]):
        raise Malformed("the rows are no list or tuple of lists or tuples")
    return tuple([tuple([taken(ground, item) for item in row]) for row in rows])


def _width_of(rows, width):
    if width is None:
        width = len(rows[0]) if len(rows) > 0 else 0
    if not is_integer(width) or width < 0 or not all([len(row) == width for row in rows]):
        raise Malformed("a row has another length than the width")
    return width


def _require_like(a, b):
    if not isinstance(b, Matrix) or a.ground != b.ground:
        raise Malformed("not two matrices over one ground")


def require_square(a):
    """Raise Malformed if the matrix is not square."""
    if not a.is_square():
        raise Malformed("the matrix is not square")


def require_squares(a, b):
    """Raise Malformed if one of two matrices is not square, or the grounds are unlike."""
    require_square(a)
    require_square(b)
    if a.ground != b.ground:
        raise Malformed("the grounds are unlike")
