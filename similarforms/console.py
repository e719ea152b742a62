"""A console: it keeps what lines define, and the entries."""

from similarforms.errors import Refused
from similarforms.log import write_log
from similarforms.replies import entered


class Console:
    """The definitions and the entries of at most as many lines as are told."""

    def __init__(self, *, most=300):
        self._most = most
        self._held = {}
        self._entries = []

    def __len__(self):
        return len(self._entries)

    def __iter__(self):
        return iter(self._entries)

    def enter(self, line):
        """Enter a line and return the reply; raise Refused("lines") if there are as many entries as may be."""
        if len(self._entries) >= self._most:
            raise Refused("lines")
        reply, definition = entered(self._held, line)
        if definition is not None:
            self._held[definition[0]] = definition[1]
        self._entries.append((line, reply))
        return reply

    def names(self):
        """Return a new dict from the defined names to their matrices."""
        return dict(self._held)

    def log(self):
        """Return the written form of the entries."""
        return write_log(list(self._entries))
