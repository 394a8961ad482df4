"""The wire, played for a whole history or while one looks on.

The calls of one message stand in a line: pairs of the due and the queued time, in the order of the due ones. In a
history the queued times of a line stand in order, too, so that its frames begin in the order of the line.
"""

from wireranks.checks import check_number, is_whole, is_whole_from
from wireranks.errors import InvalidCalls, InvalidPause, InvalidTime
from wireranks.messages import check_messages, check_name, names_of


def _is_call(names, value):
    if not isinstance(value, tuple) or len(value) != 3:
        return False
    name, due, queued = value
    return name in names and is_whole(due) and is_whole(queued)


def _is_calls(messages, value):
    names = names_of(messages)
    return isinstance(value, list) and all([_is_call(names, call) for call in value])


def _is_pause(value):
    if value is None:
        return True
    return isinstance(value, tuple) and len(value) == 2 and is_whole(value[0]) and is_whole_from(value[1], 1)


def _lines(messages, calls):
    lines = {name: [] for name in names_of(messages)}
    for name, due, queued in calls:
        lines[name].append((due, queued))
    return {name: sorted(line) for name, line in lines.items()}


def _is_allowed(message, line):
    """Whether a history may hold this line of calls of the message."""
    for due, queued in line:
        if not due <= queued <= due + message.jitter:
            return False
    # Neighbours are enough: what holds from each to the next one holds for any two.
    for (due, queued), (next_due, next_queued) in zip(line, line[1:]):
        if next_due - due < message.gap or next_queued < queued:
            return False
    return True


def _is_history(messages, calls):
    lines = _lines(messages, calls)
    return all([_is_allowed(message, lines[message.name]) for message in messages])


def fits(messages, calls):
    """Whether the list of calls is a history of the messages."""
    check_messages(messages)
    if not _is_calls(messages, calls):
        raise InvalidCalls(calls)
    return _is_history(messages, calls)


def _first_queued(lines, begun):
    """The earliest queued time of all calls whose frames have not begun, each line known to be in order."""
    return min([line[begun[name]][1] for name, line in lines.items() if begun[name] < len(line)])


def _first_ranked(ranking, lines, begun, time):
    """The best ranked message that has a call waiting at this time."""
    for message in ranking:
        line, at = lines[message.name], begun[message.name]
        if at < len(line) and line[at][1] <= time:
            return message
    return None


def _frames(ranking, lines, pause):
    """The frames of all calls in the order of their beginnings, by leaps from one beginning to the next."""
    begun = {name: 0 for name in lines}
    frames = []
    # From this time on the wire is free; it is so at all times ahead of the first beginning.
    free = _first_queued(lines, begun)
    if pause is not None:
        free = min(free, pause[0])
    for _ in range(sum([len(line) for line in lines.values()])):
        queued = _first_queued(lines, begun)
        if pause is not None and pause[0] <= max(free, queued):
            free = max(free, pause[0]) + pause[1]
            pause = None
        begin = max(free, queued)
        message = _first_ranked(ranking, lines, begun, begin)
        due = lines[message.name][begun[message.name]][0]
        begun[message.name] += 1
        free = begin + message.length
        frames.append((message.name, due, begin, free))
    return frames


def played(ranking, calls, pause):
    """The frames (name, due, begin, end) of all calls of the history, in the order of their beginnings."""
    check_messages(ranking)
    if not _is_calls(ranking, calls) or not _is_history(ranking, calls):
        raise InvalidCalls(calls)
    if not _is_pause(pause):
        raise InvalidPause(pause)
    if not calls:
        return []
    return _frames(ranking, _lines(ranking, calls), pause)


class Wire:
    """A wire that is played while one looks on."""

    def __init__(self, ranking):
        check_messages(ranking)
        self._ranking = list(ranking)
        self._now = 0
        self._lines = {name: [] for name in names_of(ranking)}
        # Of each line, how many frames have begun: these are the first ones of the line.
        self._begun = {name: 0 for name in names_of(ranking)}
        self._under_way = None
        self._dead = 0

    @property
    def now(self):
        return self._now

    @property
    def waiting(self):
        """The calls (name, due, queued) whose frames have not begun, in the order in which they would."""
        return [(name, due, queued) for name in names_of(self._ranking)
                for due, queued in self._lines[name][self._begun[name]:]]

    @property
    def under_way(self):
        """The frame (name, due, begin, end) that has the wire, None if there is none."""
        return self._under_way

    def call(self, name, due):
        """Queues a call now."""
        check_name(self._ranking, name)
        if not is_whole(due):
            raise InvalidTime(due)
        line = self._lines[name]
        at = len(line)
        while at > 0 and line[at - 1][0] > due:
            at -= 1
        # The line was allowed up to now, so that the new call only has to stand well with its neighbours.
        near = line[max(0, at - 1):at] + [(due, self._now)] + line[at:at + 1]
        if not _is_allowed(self._message(name), near):
            raise InvalidTime(due)
        line.insert(at, (due, self._now))

    def stop(self, length):
        """Puts in a pause now, or makes longer the one that has not ended."""
        check_number(length, 1)
        self._dead += length

    def wait(self, ticks):
        """Plays so many ticks; the frames (name, due, begin, end) that began in them."""
        check_number(ticks, 0)
        until = self._now + ticks
        frames = []
        free = self._now if self._under_way is None else self._under_way[3]
        while free < until:
            if self._dead > 0:
                spent = min(self._dead, until - free)
                self._dead -= spent
                free += spent
                continue
            frame = self._begin(free)
            if frame is None:
                break
            frames.append(frame)
            free = frame[3]
        self._now = until
        if self._under_way is not None and self._under_way[3] <= until:
            self._under_way = None
        return frames

    def _message(self, name):
        return self._ranking[names_of(self._ranking).index(name)]

    def _begin(self, time):
        """Lets the best call that waits begin at this time; its frame, None if no call waits."""
        for message in self._ranking:
            line, at = self._lines[message.name], self._begun[message.name]
            if at < len(line):
                self._begun[message.name] += 1
                self._under_way = (message.name, line[at][0], time, time + message.length)
                return self._under_way
        return None

    def __eq__(self, other):
        return (isinstance(other, Wire) and self._ranking == other._ranking and self._now == other._now
                and self._lines == other._lines and self._begun == other._begun
                and self._under_way == other._under_way and self._dead == other._dead)
