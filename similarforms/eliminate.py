"""Elimination in lists of rows, which may have any length."""


def eliminated(rows, columns):
    """Clear the first `columns` columns of the rows.

    Returns `(done, rest, pivots)`: the rows with a pivot, in order, reduced in these columns; the rows that have only
    zeros in them; and the list of the pivots. The rows of `done` and `rest` together have the span of all rows.
    The rows of `rest` are in the order of the given ones, each less a combination of given rows before it.
    """
    done = []
    rest = [list(row) for row in rows]
    pivots = []
    for column in range(columns):
        at = _first_at(rest, column)
        if at is not None:
            row = _normed(rest[at], column)
            rest = _cleared_others(rest, at, row, column)
            done = [cleared(other, row, column) for other in done] + [row]
            pivots.append(column)
    return done, rest, pivots


def cleared(other, row, column):
    """Return `other` less the multiple of `row`, which has 1 at `column`, that makes its item there 0."""
    factor = other[column]
    if factor.is_zero():
        return other
    return [x - factor * y for x, y in zip(other, row)]


def is_zero_row(row):
    """Return True if all items are 0, also without items."""
    return all([x.is_zero() for x in row])


def determinant_of(rows, one):
    """Return the determinant of as many rows as they have items."""
    value = one
    rest = [list(row) for row in rows]
    for column in range(len(rows)):
        at = _first_at(rest, column)
        if at is None:
            return one - one
        value = value * rest[at][column]
        # The row passes `at` others on its way to the top.
        if at % 2 == 1:
            value = -value
        rest = _cleared_others(rest, at, _normed(rest[at], column), column)
    return value


def with_unit(ground, rows):
    """Return the rows, each followed by the row of the unit matrix at its index."""
    zero = ground.zero()
    one = ground.one()
    return [list(row) + [one if i == k else zero for i in range(len(rows))] for k, row in enumerate(rows)]


def _first_at(rows, column):
    for k, row in enumerate(rows):
        if not row[column].is_zero():
            return k
    return None


def _normed(row, column):
    factor = row[column].inverse()
    return [x * factor for x in row]


def _cleared_others(rows, at, row, column):
    return [cleared(other, row, column) for k, other in enumerate(rows) if k != at]
