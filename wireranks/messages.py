"""The messages that share the wire."""

from wireranks.checks import is_name, is_whole_from
from wireranks.errors import InvalidMessage


def _is_message(name, gap, length, jitter, last):
    if not is_name(name) or not is_whole_from(jitter, 0):
        return False
    return is_whole_from(gap, 1) and is_whole_from(length, 1) and is_whole_from(last, 1)


class Message:
    """A message that comes again and again; it never changes."""

    def __init__(self, name, gap, length, jitter, last):
        if not _is_message(name, gap, length, jitter, last):
            raise InvalidMessage((name, gap, length, jitter, last))
        self._name = name
        self._gap = gap
        self._length = length
        self._jitter = jitter
        self._last = last

    @property
    def name(self):
        return self._name

    @property
    def gap(self):
        """The least time from one due time to the next."""
        return self._gap

    @property
    def length(self):
        """How many ticks a frame takes."""
        return self._length

    @property
    def jitter(self):
        """How much later than due a call may be queued."""
        return self._jitter

    @property
    def last(self):
        """The greatest delay that a call should have."""
        return self._last

    def __eq__(self, other):
        return (isinstance(other, Message) and self._name == other._name and self._gap == other._gap
                and self._length == other._length and self._jitter == other._jitter and self._last == other._last)
