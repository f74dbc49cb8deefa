"""The errors that the package raises."""


class NetError(ValueError):
    """What all errors of the package are under; never raised itself."""


class BadNet(NetError):
    """A net or the text of one is refused; line is 0 where there is no text."""

    def __init__(self, line, reason):
        self.line = line
        self.reason = reason


class BadEntry(NetError):
    """The entry of a log with the index place cannot be applied."""

    def __init__(self, place):
        self.place = place


class BadNumbers(NetError):
    """A list is no written log from the index place on."""

    def __init__(self, place):
        self.place = place


class BadBox(NetError):
    """A box, or the inputs in the middle of one, do not fit the net."""


class BadDemand(NetError):
    """A demand is none, or does not fit the net."""
