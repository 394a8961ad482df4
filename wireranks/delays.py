"""The greatest delays of the frames of a message in a ranking.

A row of frames of a message: a worse frame, as long as can be, begins at the time -1; at 0 the wire is stopped for as
long as can be, and from 0 on the message and all better ones are called as often as can be, as long after they were due
as can be. No frame of any history has a greater delay than the frame of the same place in this row has, so that the
greatest delay is that of one of the row.
"""

from math import lcm

from wireranks.checks import check_number
from wireranks.messages import check_messages, check_name, names_of


def _period(messages):
    period = 1
    for message in messages:
        period = lcm(period, message.gap)
    return period


def _is_too_much(messages):
    """Whether the frames of these messages, called as often as can be, need more than all ticks."""
    period = _period(messages)
    return sum([message.length * (period // message.gap) for message in messages]) > period


def _lost(worse, pause):
    """How many ticks of a row the worse frame and the pause take."""
    return max([message.length - 1 for message in worse], default=0) + pause


def _begin(better, taken, begin, latest):
    """The first time at which the wire is free from so many ticks taken and from all better frames queued up to then.

    This time is known not to be ahead of `begin`; if it is behind `latest`, any time behind that is returned.
    """
    while latest is None or begin <= latest:
        then = taken
        for gap, length, jitter in better:
            then += ((begin + jitter) // gap + 1) * length
        if then == begin:
            break
        begin = then
    return begin


def _row(better, message, lost, most):
    """The delays of the frames of the row, as far as it has to be looked at; frames must not need more than all ticks.

    If `most` is not None, the row is left at the first delay that is greater.
    """
    pace = [(other.gap, other.length, other.jitter) for other in better]
    delays = []
    begin, due, latest = lost, -message.jitter, None
    # After a whole period no delay is greater than it was a period before.
    for place in range(_period(better + [message]) // message.gap):
        if most is not None:
            latest = most + due - message.length
        begin = _begin(pace, lost + place * message.length, begin, latest)
        if place > 0 and begin <= due:
            # Nothing is left to be done when this call comes: a new row begins, whose frames are not later than these.
            break
        delays.append(begin + message.length - due)
        if most is not None and delays[-1] > most:
            break
        begin += message.length
        due += message.gap
    return delays


def greatest_between(better, message, worse, pause):
    """The greatest delay of the message in a ranking between these ones, None if there is none."""
    if _is_too_much(better + [message]):
        return None
    return max(_row(better, message, _lost(worse, pause), None))


def keeps_between(better, message, worse, pause):
    """Whether the message keeps its last time in a ranking between these ones."""
    if _is_too_much(better + [message]):
        return False
    return max(_row(better, message, _lost(worse, pause), message.last)) <= message.last


def greatest(ranking, name, pause):
    """The greatest delay of a frame of the named message in all histories, None if there is none."""
    check_messages(ranking)
    check_name(ranking, name)
    check_number(pause, 0)
    at = names_of(ranking).index(name)
    return greatest_between(ranking[:at], ranking[at], ranking[at + 1:], pause)


def _calls_up_to(message, time):
    """As many calls of the message as can be queued from 0 up to this time."""
    dues = range(-message.jitter, time + 1, message.gap)
    return [(message.name, due, max(due, 0)) for due in dues]


def worst(ranking, name, pause):
    """The greatest delay and calls that reach it, played with the pause (0, pause); None if there is none."""
    check_messages(ranking)
    check_name(ranking, name)
    check_number(pause, 0)
    at = names_of(ranking).index(name)
    message, better, worse = ranking[at], ranking[:at], ranking[at + 1:]
    if _is_too_much(better + [message]):
        return None
    delays = _row(better, message, _lost(worse, pause), None)
    delay = max(delays)
    due = delays.index(delay) * message.gap - message.jitter
    calls = _calls_up_to(message, due)
    for other in better:
        calls.extend(_calls_up_to(other, due + delay - message.length))
    if worse:
        longest = max(worse, key=lambda other: other.length)
        calls.append((longest.name, -1, -1))
    return delay, calls


def keeps(ranking, pause):
    """Whether each message of the ranking keeps its last time."""
    check_messages(ranking)
    check_number(pause, 0)
    for at, message in enumerate(ranking):
        if not keeps_between(ranking[:at], message, ranking[at + 1:], pause):
            return False
    return True
