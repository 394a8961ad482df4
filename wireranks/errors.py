"""The errors of the package.

Each class of the table has an __init__ of its own, because the interface lists its argument for each of them.
"""


class WireRanksError(ValueError):
    """The base of all errors of the package."""

    def __init__(self, value=None):
        self.value = value


class InvalidMessage(WireRanksError):
    """The five arguments make no message; value is the tuple of them."""

    def __init__(self, value=None):
        self.value = value


class InvalidMessages(WireRanksError):
    """An argument is no list of messages."""

    def __init__(self, value=None):
        self.value = value


class InvalidName(WireRanksError):
    """An argument is not the name of a message in question, or no list of such."""

    def __init__(self, value=None):
        self.value = value


class InvalidCalls(WireRanksError):
    """An argument is no list of calls, or no history."""

    def __init__(self, value=None):
        self.value = value


class InvalidPause(WireRanksError):
    """An argument is no pause."""

    def __init__(self, value=None):
        self.value = value


class InvalidTime(WireRanksError):
    """An argument is no time, or none at which a call may be due."""

    def __init__(self, value=None):
        self.value = value


class InvalidNumber(WireRanksError):
    """An argument is no whole number, or one below the least that is allowed."""

    def __init__(self, value=None):
        self.value = value
