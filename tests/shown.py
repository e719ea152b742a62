"""What papers show, worked out in fractions and integers without the program's own products."""

from fractions import Fraction

from similarforms.ratio import Ratio
from similarforms.residue import Residue


class NoPaper(Exception):
    """A value has not the form of a paper."""


def shown(check, *arguments):
    """Return True if the value has the form of a paper and shows what it says."""
    try:
        return check(*arguments)
    except NoPaper:
        return False


def need(holds):
    if not holds:
        raise NoPaper


def plain(ground, x):
    need(type(x) is (Residue if ground.p else Ratio))
    need(ground.p == 0 or x.p == ground.p)
    return x.n if ground.p else Fraction(x.n, x.d)


def row_of(ground, value, length=None):
    need(type(value) is tuple and length in (None, len(value)))
    return [plain(ground, x) for x in value]


def table(ground, value, height, width):
    need(type(value) is tuple and len(value) == height)
    return [row_of(ground, row, width) for row in value]


def cleaned(ground, rows):
    return [[x % ground.p if ground.p else x for x in row] for row in rows]


def times(ground, a, b, width):
    """Return the product of two lists of rows; the width is that of the second one."""
    return cleaned(ground, [[sum(x * line[k] for x, line in zip(row, b)) for k in range(width)] for row in a])


def ones(n):
    return [[int(i == k) for i in range(n)] for k in range(n)]


def value_at(ground, f, a):
    """Return the sum of the powers of the rows of `a`, a square list of rows, times the coefficients."""
    n = len(a)
    total, power = [[0] * n for _ in range(n)], ones(n)
    for c in f:
        total = [[x + c * y for x, y in zip(*rows)] for rows in zip(total, power)]
        power = times(ground, power, a, n)
    return cleaned(ground, total)


def rows_of(m):
    return [[plain(m.ground, x) for x in row] for row in m.rows]


def words(paper, word, length):
    need(type(paper) is tuple and len(paper) == length)
    need(type(paper[0]) is str and paper[0] == word)


def monic(ground, value, least):
    f = row_of(ground, value)
    need(len(f) > least and f[-1] == 1)
    return f


def shows_rank(ground, rows, width, paper):
    words(paper, "rank", 6)
    _, r, left, right, tall, wide = paper
    need(type(r) is int and r >= 0)
    left, right = table(ground, left, r, len(rows)), table(ground, right, width, r)
    tall, wide = table(ground, tall, len(rows), r), table(ground, wide, r, width)
    middle = times(ground, times(ground, left, rows, width), right, r)
    return middle == ones(r) and times(ground, tall, wide, width) == rows


def shows_rank_of(m, paper):
    return shows_rank(m.ground, rows_of(m), m.width, paper)


def shows_minimal(a, paper):
    words(paper, "minimal", 4)
    n = len(a)
    f = monic(a.ground, paper[1], 0)
    krylov = [row_of(a.ground, paper[2], n)]
    right = table(a.ground, paper[3], n, len(f) - 1)
    for _ in range(len(f) - 1):
        krylov += times(a.ground, krylov[-1:], rows_of(a), n)
    zeros = [[0] * n for _ in range(n)]
    product = times(a.ground, krylov[:-1], right, len(f) - 1)
    return value_at(a.ground, f, rows_of(a)) == zeros and product == ones(len(f) - 1)


def shows_pair(a, b, paper):
    need(type(paper) is tuple and len(paper) > 0 and type(paper[0]) is str)
    n = len(a)
    if paper[0] == "sizes":
        return len(paper) == 1 and n != len(b)
    need(n == len(b))
    if paper[0] == "similar":
        words(paper, "similar", 3)
        p, q = table(a.ground, paper[1], n, n), table(a.ground, paper[2], n, n)
        one, two = times(a.ground, p, rows_of(a), n), times(a.ground, rows_of(b), p, n)
        return times(a.ground, p, q, n) == ones(n) and one == two
    words(paper, "unlike", 4)
    g = row_of(a.ground, paper[1])
    need(g == [] or g[-1] != 0)
    return (shows_rank(a.ground, value_at(a.ground, g, rows_of(a)), n, paper[2])
            and shows_rank(a.ground, value_at(a.ground, g, rows_of(b)), n, paper[3]) and paper[2][1] != paper[3][1])


def shows_form(a, paper):
    words(paper, "form", 4)
    n, ground = len(a), a.ground
    need(type(paper[1]) is tuple)
    factors = [monic(ground, row, 1) for row in paper[1]]
    need(all(divides(ground, g, f) for f, g in zip(factors, factors[1:])))
    p, q = table(ground, paper[2], n, n), table(ground, paper[3], n, n)
    form = companions(ground, factors)
    product = times(ground, times(ground, p, rows_of(a), n), q, n)
    return times(ground, p, q, n) == ones(n) and product == form


def companions(ground, factors):
    """Return the diagonal matrix of the companions, as a list of rows."""
    size = sum(len(f) - 1 for f in factors)
    rows = []
    for f in factors:
        above, d = len(rows), len(f) - 1
        for i in range(d):
            row = [0] * size
            if i < d - 1:
                row[above + i + 1] = 1
            else:
                row[above:above + d] = [-c for c in f[:-1]]
            rows.append(row)
    return cleaned(ground, rows)


def divides(ground, g, f):
    """Return True if the monic `g` divides `f`."""
    left = list(f)
    while len(left) >= len(g):
        c = left[-1]
        for k in range(len(g)):
            left[len(left) - len(g) + k] -= c * g[k]
        left.pop()
    return not any(cleaned(ground, [left])[0])
