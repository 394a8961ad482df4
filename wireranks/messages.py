"""The messages that share the wire, and lists of them."""

from wireranks.checks import is_name, is_whole_from
from wireranks.errors import InvalidMessage, InvalidMessages, InvalidName


def _is_message(name, gap, length, jitter, last):
    if not is_name(name) or not is_whole_from(jitter, 0):
        return False
    return is_whole_from(gap, 1) and is_whole_from(length, 1) and is_whole_from(last, 1)


class Message:
    """A message that comes again and again; it never changes."""

    def __init__(self, name, gap, length, jitter, last):
        if not _is_message(name, gap, length, jitter, last):
            raise InvalidMessage((name, gap, length, jitter, last))
        self._name = name
        self._gap = gap
        self._length = length
        self._jitter = jitter
        self._last = last

    @property
    def name(self):
        return self._name

    @property
    def gap(self):
        """The least time from one due time to the next."""
        return self._gap

    @property
    def length(self):
        """How many ticks a frame takes."""
        return self._length

    @property
    def jitter(self):
        """How much later than due a call may be queued."""
        return self._jitter

    @property
    def last(self):
        """The greatest delay that a call should have."""
        return self._last

    def __eq__(self, other):
        return (isinstance(other, Message) and self._name == other._name and self._gap == other._gap
                and self._length == other._length and self._jitter == other._jitter and self._last == other._last)


def names_of(messages):
    return [message.name for message in messages]


def _is_messages(value):
    if not isinstance(value, list) or not value:
        return False
    if not all([isinstance(message, Message) for message in value]):
        return False
    return len(set(names_of(value))) == len(value)


def check_messages(value):
    """Refuses what is not a list of at least one message, all of different names."""
    if not _is_messages(value):
        raise InvalidMessages(value)


def check_name(messages, value):
    """Refuses what is not the name of one of the messages."""
    if value not in names_of(messages):
        raise InvalidName(value)
