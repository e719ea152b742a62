"""Replies to the lines of a worksheet."""

from similarforms.checker import takes_form, takes_minimal, takes_pair, takes_rank
from similarforms.commuting import commutant_dimension
from similarforms.cyclic import characteristic_polynomial
from similarforms.digits import digits_of
from similarforms.errors import Malformed, NoText, Refused
from similarforms.form import frobenius_form
from similarforms.papers import form_paper, minimal_paper, pair_paper, rank_paper
from similarforms.parts import eigenvalues
from similarforms.poly import Poly
from similarforms.sheet import matrix_text, read_line
from similarforms.summands import summands

_ABOVE_DIGITS = 10 ** 20
# The kinds of the replies that have a paper.
_KINDS = {"rank": "number", "minimal": "polynomial", "factors": "factors", "similar": "similar"}


class Reply:
    """The reply to a line: its kind, a text and data, which are a tuple."""

    def __init__(self, kind, text="", data=()):
        self.kind = kind
        self.text = text
        self.data = data

    def __eq__(self, other):
        return (isinstance(other, Reply) and self.kind == other.kind
                and self.text == other.text and self.data == other.data)


def reply_to(names, line):
    """Return the reply to a line, for every value; `names` is a dict from names to square matrices."""
    return entered(names, line)[0]


def defined(names, line):
    """Return the pair of the name and the matrix that a line defines, or None, for every value."""
    return entered(names, line)[1]


def is_right(names, entry):
    """Return True if the entry, a pair of a line and a Reply, is right over the definitions, for every value."""
    return judged(names, entry)[0]


def entered(names, line):
    """Return the pair of what `reply_to` and `defined` return."""
    try:
        return _carried_out(names, read_line(line))
    except NoText:
        return Reply("error", "text"), None
    except Malformed:
        return Reply("error", "malformed"), None
    except Refused as fault:
        return Reply("error", f"refused {fault.reason}"), None


def judged(names, entry):
    """Return the pair of what `is_right` returns, and what the line of a right entry defines, or None."""
    if not is_entry(entry):
        return False, None
    line, reply = entry
    word, matrices = _asked_for(names, line)
    # A paper need not be the one that the program would write.
    if word in _KINDS:
        return _is_shown(word, matrices, reply), None
    told, definition = entered(names, line)
    return reply == told, definition


def is_entry(value):
    """Return True for a pair of anything and a Reply, for every value."""
    return isinstance(value, tuple) and len(value) == 2 and isinstance(value[1], Reply)


def _carried_out(names, command):
    """Return the reply to a command, and the pair that it defines, or None."""
    word = command[0]
    if word in _MAKERS:
        m = _made(word, _looked_up(names, command[2:]))
        return Reply("matrix", matrix_text(m)), (command[1], m)
    arguments = _looked_up(names, command[1:])
    if word in _KINDS:
        paper = _paper(word, arguments)
        return Reply(_KINDS[word], _paper_text(word, arguments[0].ground, paper), paper), None
    answer = _ANSWERS[word]
    return answer(*arguments), None


def _looked_up(names, tokens):
    """Return the list of the tokens with the matrices in the place of their names."""
    words = [token for token in tokens if isinstance(token, str)]
    if not all([word in names for word in words]):
        raise Refused("name")
    return [names[token] if isinstance(token, str) else token for token in tokens]


def _made(word, arguments):
    maker = _MAKERS[word]
    m = maker(*arguments)
    if m.ground.p == 0 and not all([_is_short(x) for row in m.rows for x in row]):
        raise Refused("digits")
    return m


def _is_short(number):
    return abs(number.n) < _ABOVE_DIGITS and number.d < _ABOVE_DIGITS


def _asked_for(names, line):
    """Return the word and the matrices of a line that is right with any paper, and else two times None."""
    try:
        command = read_line(line)
        matrices = _looked_up(names, command[1:]) if command[0] in _KINDS else []
    except (NoText, Refused):
        return None, None
    if command[0] in _KINDS and matrices[0].ground == matrices[-1].ground:
        return command[0], matrices
    return None, None


def _is_shown(word, matrices, reply):
    if reply.kind != _KINDS[word] or not _takes(word, matrices, reply.data):
        return False
    return reply.text == _paper_text(word, matrices[0].ground, reply.data)


def _paper(word, matrices):
    if word == "rank":
        return rank_paper(matrices[0])
    if word == "minimal":
        return minimal_paper(matrices[0])
    if word == "factors":
        return form_paper(matrices[0])
    return pair_paper(matrices[0], matrices[1])


def _takes(word, matrices, paper):
    if word == "rank":
        return takes_rank(matrices[0], paper)
    if word == "minimal":
        return takes_minimal(matrices[0], paper)
    if word == "factors":
        return takes_form(matrices[0], paper)
    return takes_pair(matrices[0], matrices[1], paper)


def _paper_text(word, ground, paper):
    """Return the text that belongs to a paper."""
    if word == "rank":
        return digits_of(paper[1])
    if word == "minimal":
        return str(Poly(ground, paper[1]))
    if word == "factors":
        return "; ".join([str(Poly(ground, row)) for row in paper[1]])
    return "yes" if paper[0] == "similar" else "no"


def _given(m):
    return m


def _sum(a, b):
    return a + b


def _product(a, b):
    return a * b


def _power(a, k):
    return a.power(k)


def _transposed(a):
    return a.transposed()


def _inverse(a):
    return a.inverse()


def _form(a):
    return frobenius_form(a)


def _semisimple(a):
    return summands(a)[0]


def _nilpotent(a):
    return summands(a)[1]


# What gives the matrix of a line that defines one, out of what follows the name.
_MAKERS = {
    "let": _given, "sum": _sum, "product": _product, "power": _power, "transposed": _transposed, "inverse": _inverse,
    "form": _form, "semisimple": _semisimple, "nilpotent": _nilpotent,
}


def _shown(a):
    return Reply("matrix", matrix_text(a))


def _characteristic(a):
    return Reply("polynomial", str(characteristic_polynomial(a)))


def _determinant(a):
    return Reply("number", str(a.determinant()))


def _trace(a):
    return Reply("number", str(a.trace()))


def _commutant(a):
    return Reply("number", digits_of(commutant_dimension(a)))


def _eigenvalues(a):
    numbers = eigenvalues(a)
    return Reply("numbers", " ".join([str(c) for c in numbers]), numbers)


def _nothing():
    return Reply("done")


# What gives the reply to any other line that has no paper.
_ANSWERS = {
    "show": _shown, "characteristic": _characteristic, "determinant": _determinant, "trace": _trace,
    "commutant": _commutant, "eigenvalues": _eigenvalues, "empty": _nothing,
}
