"""Written forms of plain data and of logs."""

from similarforms.digits import digits_of, integer_with, natural_with
from similarforms.errors import Malformed, NoText
from similarforms.ground import Ground
from similarforms.ratio import Ratio, is_integer
from similarforms.replies import Reply, is_entry, judged
from similarforms.residue import Residue, is_small_prime
from similarforms.sheet import is_word

_DEEPEST = 20
_LONGEST_LABEL = 12
# What the three lines of an entry begin with.
_MARKS = ("> ", "= ", "# ")


def write_data(data):
    """Return the written form of plain data; raise Malformed for every other value."""
    return _written(data, _DEEPEST)


def read_data(text):
    """Return the plain data with this written form; raise NoText(0) if there are none, for every value."""
    if not isinstance(text, str):
        raise NoText(0)
    words = text.replace("(", "( ").replace(")", " )").split(" ")
    data = _nested([word for word in words if word != ""])
    # Wrong spaces, zeros in front and tuples that are not closed were let through so far.
    if write_data(data) != text:
        raise NoText(0)
    return data


def write_log(entries):
    """Return the written form of a list of entries; raise Malformed for an item that has none."""
    return "".join([_entry_text(entry) for entry in entries])


def read_log(text):
    """Return the list of entries with this written form.

    Raises NoText(0) if `text` is no string, and NoText with the number of the first wrong line, or of the line feeds
    if the text ends within an entry or without a line feed.
    """
    if not isinstance(text, str):
        raise NoText(0)
    *lines, rest = text.split("\n")
    parts = []
    for at, line in enumerate(lines):
        part = _part(line, at % 3)
        if part is None:
            raise NoText(at)
        parts.append(part)
    if rest != "" or len(lines) % 3 != 0:
        raise NoText(len(lines))
    return [_entry_with(parts[k:k + 3]) for k in range(0, len(parts), 3)]


def first_wrong(entries):
    """Return the index of the first item of a list that is no right entry, beginning without definitions, or -1."""
    names = {}
    for k, entry in enumerate(entries):
        right, definition = judged(names, entry)
        if not right:
            return k
        if definition is not None:
            names[definition[0]] = definition[1]
    return -1


def _written(data, depth):
    """Return the written form of plain data with tuples that are nested at most so deep."""
    if is_integer(data):
        return digits_of(data)
    if isinstance(data, Ratio):
        return f"q{str(data)}"
    if isinstance(data, Residue):
        return f"{str(data)}m{data.p}"
    if isinstance(data, tuple) and depth > 0:
        inside = " ".join([_written(item, depth - 1) for item in data])
        return f"({inside})"
    if is_word(data, _LONGEST_LABEL):
        return data
    raise Malformed("no plain data")


def _nested(words):
    """Return the data that are written by these words, of which parentheses are some."""
    # Behind the first list, which holds all, stands one for each tuple that is not closed yet.
    stack = [[]]
    for word in words:
        if word == "(" and len(stack) <= _DEEPEST:
            stack.append([])
        elif word == ")" and len(stack) > 1:
            done = tuple(stack.pop())
            stack[-1].append(done)
        else:
            stack[-1].append(_single(word))
    if len(stack[0]) != 1:
        raise NoText(0)
    return stack[0][0]


def _single(word):
    n = integer_with(word)
    if n is not None:
        return n
    if is_word(word, _LONGEST_LABEL):
        return word
    if word.startswith("q"):
        return Ground().read(word[1:])
    number, _, prime = word.partition("m")
    p = natural_with(prime)
    if not is_small_prime(p):
        raise NoText(0)
    return Ground(p).read(number)


def _entry_text(entry):
    if not is_entry(entry):
        raise Malformed("no pair of a line and a Reply")
    line, reply = entry
    if not _is_one_line(line) or not _is_one_line(reply.text) or not is_word(reply.kind, _LONGEST_LABEL):
        raise Malformed("a line or a text is no string without a line feed, or the kind is no label")
    if not isinstance(reply.data, tuple):
        raise Malformed("the data are no tuple")
    return f"> {line}\n= {reply.kind} {reply.text}\n# {write_data(reply.data)}\n"


def _is_one_line(value):
    return isinstance(value, str) and "\n" not in value


def _entry_with(parts):
    line, (kind, text), data = parts
    return line, Reply(kind, text, data)


def _part(line, place):
    """Return what a line of a log tells at its place in an entry, or None if it has not the form."""
    if not line.startswith(_MARKS[place]):
        return None
    told = line[2:]
    if place == 0:
        return told
    if place == 1:
        kind, space, text = told.partition(" ")
        return (kind, text) if space == " " and is_word(kind, _LONGEST_LABEL) else None
    return _tuple_with(told)


def _tuple_with(text):
    try:
        data = read_data(text)
    except NoText:
        return None
    return data if isinstance(data, tuple) else None
