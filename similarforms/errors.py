"""The errors that the program raises."""


class Fault(ValueError):
    """The base class of all errors of the program."""


class ZeroDivisor(Fault):
    """A division by zero was asked for."""


class Malformed(Fault):
    """A value has not the form that is asked for."""


class Refused(Fault):
    """The arguments have their form, but there is no result for them."""

    def __init__(self, reason):
        self.reason = reason


class NoText(Fault):
    """A text is no written form; it fails at the place `at`."""

    def __init__(self, at):
        self.at = at
