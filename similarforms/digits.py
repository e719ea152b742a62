"""Decimal digits of integers of any size.

Python's own conversion between integers and strings may refuse more than some hundred digits. So it is only given
short pieces here.
"""

_LENGTH = 64
_PIECE = 10 ** 64


def digits_of(n):
    """Return the decimal digits of an integer, with a minus sign in front if it is negative."""
    if n < 0:
        return f"-{digits_of(-n)}"
    if n < _PIECE:
        return str(n)
    squares = [_PIECE]
    while squares[-1] <= n:
        squares.append(squares[-1] * squares[-1])
    pieces = [n]
    # The last square is above n, and so would only split off a zero.
    for square in squares[-2::-1]:
        pieces = [part for piece in pieces for part in divmod(piece, square)]
    text = "".join([str(piece).zfill(_LENGTH) for piece in pieces])
    return text.lstrip("0")


def natural_with(text):
    """Return the integer from 0 on with these digits, leading zeros allowed, or None if there is none."""
    # isdigit alone would take the digits of other scripts.
    if not (text.isascii() and text.isdigit()):
        return None
    pieces = [int(text[max(0, end - _LENGTH):end]) for end in range(len(text), 0, -_LENGTH)]
    base = _PIECE
    while len(pieces) > 1:
        if len(pieces) % 2 == 1:
            pieces.append(0)
        pieces = [pieces[k] + pieces[k + 1] * base for k in range(0, len(pieces), 2)]
        base = base * base
    return pieces[0]


def integer_with(text):
    """Return the integer with these digits and perhaps a minus sign, or None if there is none."""
    if not text.startswith("-"):
        return natural_with(text)
    size = natural_with(text[1:])
    return None if size is None else -size
