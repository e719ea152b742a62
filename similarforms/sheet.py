"""Texts of square matrices, and the lines of a worksheet."""

from similarforms.digits import natural_with
from similarforms.errors import NoText
from similarforms.ground import Ground
from similarforms.matrix import Matrix, require_square
from similarforms.residue import is_small_prime

_MOST_SIGNS = 2000
_MOST_ROWS = 8
_LONGEST_NAME = 8
# What follows the first token of a line, except for `let`: N stands for a name, D for a digit.
_SHAPES = {
    "sum": "NNN", "product": "NNN", "power": "NND", "transposed": "NN", "inverse": "NN", "form": "NN",
    "semisimple": "NN", "nilpotent": "NN", "show": "N", "rank": "N", "minimal": "N", "factors": "N", "similar": "NN",
    "characteristic": "N", "determinant": "N", "trace": "N", "commutant": "N", "eigenvalues": "N",
}


def matrix_text(m):
    """Return the text of a square matrix; raise Malformed if it is not square."""
    require_square(m)
    head = "q" if m.ground.p == 0 else str(m.ground.p)
    body = ";".join([" ".join([""] + [str(x) for x in row]) for row in m.rows])
    return f"{head}:{body}"


def read_matrix(text):
    """Return the square matrix with this text; raise NoText(0) if there is none, for every value."""
    if not isinstance(text, str) or len(text) > _MOST_SIGNS:
        raise NoText(0)
    head, colon, body = text.partition(":")
    ground = _ground_with(head)
    rows = [] if body == "" else body.split(";")
    if ground is None or colon == "" or len(rows) > _MOST_ROWS:
        raise NoText(0)
    return Matrix(ground, [_row_with(ground, row, len(rows)) for row in rows], len(rows))


def read_line(line):
    """Return the command of a line as a tuple; raise NoText(0) if there is none, for every value."""
    if not _is_line(line):
        raise NoText(0)
    words = line.split()
    if len(words) == 0 or line.startswith("#"):
        return ("empty",)
    if words[0] == "let":
        return _definition(line, words)
    shape = _SHAPES.get(words[0])
    if shape is None or len(words) != len(shape) + 1:
        raise NoText(0)
    return tuple([words[0]] + [_token(kind, word) for kind, word in zip(shape, words[1:])])


def is_word(value, longest):
    """Return True for a string of 1 to `longest` small letters, for every value."""
    # The two methods alone would take the letters of other scripts.
    return isinstance(value, str) and len(value) <= longest and value.isascii() and value.isalpha() and value.islower()


def _ground_with(head):
    if head == "q":
        return Ground()
    p = natural_with(head)
    # Leading zeros were let through so far.
    return Ground(p) if is_small_prime(p) and str(p) == head else None


def _row_with(ground, text, length):
    words = text.split(" ")
    # A space stands in front of each item, and nothing before the first one.
    if words[0] != "" or len(words) != length + 1:
        raise NoText(0)
    return [ground.read(word) for word in words[1:]]


def _is_line(value):
    fits = isinstance(value, str) and len(value) <= _MOST_SIGNS
    return fits and all([" " <= sign <= "~" for sign in value])


def _definition(line, words):
    if len(words) < 3 or not is_word(words[1], _LONGEST_NAME) or words[2] != "=":
        raise NoText(0)
    return "let", words[1], read_matrix(line.partition("=")[2].strip())


def _token(kind, word):
    if kind == "N" and is_word(word, _LONGEST_NAME):
        return word
    if kind == "D" and len(word) == 1 and word.isdigit():
        return int(word)
    raise NoText(0)
