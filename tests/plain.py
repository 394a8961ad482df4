"""What the document says, done as plainly as can be: tick by tick, and by trying everything."""

import itertools

from wireranks.messages import Message


def by_name(messages):
    return {message.name: message for message in messages}


def fits(messages, calls):
    """[20], for any two different places of the list."""
    named = by_name(messages)
    for name, due, queued in calls:
        if queued < due or queued > due + named[name].jitter:
            return False
    for (name, due, queued), (other, other_due, other_queued) in itertools.combinations(calls, 2):
        if name != other:
            continue
        gap = named[name].gap
        if not (other_due >= due + gap and other_queued >= queued or due >= other_due + gap and queued >= other_queued):
            return False
    return True


def played(ranking, calls, pause):
    """[22], tick by tick."""
    left = list(calls)
    frames = []
    times = [queued for _, _, queued in calls] + ([] if pause is None else [pause[0]])
    if not times:
        return []
    time = min(times) - 3
    while left:
        if pause is not None and pause[0] <= time:
            time += pause[1]
            pause = None
            continue
        waiting = [call for call in left if call[2] <= time]
        for message in ranking:
            of_message = [call for call in waiting if call[0] == message.name]
            if of_message:
                call = min(of_message, key=lambda call: call[1])
                left.remove(call)
                frames.append((message.name, call[1], time, time + message.length))
                time += message.length
                break
        else:
            time += 1
    return frames


class Wire:
    """[24], tick by tick."""

    def __init__(self, ranking):
        self.ranking = list(ranking)
        self.now = 0
        self.calls = []
        self.begun = []
        self.under_way = None
        self.pause = 0

    def may_call(self, name, due):
        return fits(self.ranking, self.calls + [(name, due, self.now)])

    def call(self, name, due):
        self.calls.append((name, due, self.now))

    def stop(self, length):
        self.pause += length

    @property
    def waiting(self):
        left = [call for call in self.calls if call not in self.begun]
        return [call for message in self.ranking for call in sorted(left) if call[0] == message.name]

    def wait(self, ticks):
        frames = []
        for _ in range(ticks):
            if self.under_way is None:
                if self.pause:
                    self.pause -= 1
                elif self.waiting:
                    call = self.waiting[0]
                    self.begun.append(call)
                    end = self.now + by_name(self.ranking)[call[0]].length
                    self.under_way = (call[0], call[1], self.now, end)
                    frames.append(self.under_way)
            self.now += 1
            if self.under_way is not None and self.under_way[3] == self.now:
                self.under_way = None
        return frames


def queued_now(earliest, gap, jitter):
    """All ways to queue calls of one message at the time 0: (dues, earliest next due)."""
    ways = [((), earliest)]
    for dues, least in ways:
        ways.extend((dues + (due,), due + gap) for due in range(max(least, -jitter), 1))
    return ways


class Adversary:
    """Searches all that can ever happen on a small wire, tick by tick, for the greatest delay of one message.

    A state is (the earliest next due of each better message, how many calls of each wait, the earliest next due of the
    message, the dues of its calls that wait, the ticks for which the wire is taken, those of a pause that waits, those
    of the pause that may still be put in), all times counted from now. A worse frame may begin whenever it may.
    """

    def __init__(self, better, message, worse):
        self.better = better
        self.message = message
        self.lengths = sorted({other.length for other in worse})
        self.greatest = 0

    def search(self, pause, most):
        """The greatest delay in all histories; None if there are more states than the most allowed."""
        none = (0,) * len(self.better)
        start = (tuple(-other.jitter for other in self.better), none, -self.message.jitter, (), 0, 0, pause)
        seen, todo = {start}, [start]
        while todo:
            for state in self.after(todo.pop()):
                if state not in seen:
                    seen.add(state)
                    todo.append(state)
            if len(seen) > most:
                return None
        return self.greatest

    def after(self, state):
        earliest, counts, own, dues, taken, waiting, left = state
        pauses = [(waiting, left)] + [(length, 0) for length in range(1, left + 1)]
        ways = [queued_now(*pair) for pair in zip(
            earliest + (own,), [other.gap for other in self.better] + [self.message.gap],
            [other.jitter for other in self.better] + [self.message.jitter])]
        for chosen in itertools.product(*ways):
            called = tuple(count + len(one[0]) for count, one in zip(counts, chosen))
            mine = dues + chosen[-1][0]
            later = [one[1] - 1 for one in chosen]
            jitters = [other.jitter for other in self.better] + [self.message.jitter]
            later = [max(time, -jitter) for time, jitter in zip(later, jitters)]
            for put_in, still in pauses:
                for then, rest, ticks, pending in self.begun(called, mine, taken, put_in):
                    yield (tuple(later[:-1]), then, later[-1], tuple(due - 1 for due in rest), max(ticks - 1, 0),
                           pending, still)

    def begun(self, counts, dues, taken, put_in):
        """What may take the wire now: (the counts, the dues, the ticks taken, those of a pause that waits)."""
        if taken:
            return [(counts, dues, taken, put_in)]
        if put_in:
            return [(counts, dues, put_in, 0)]
        for at, count in enumerate(counts):
            if count:
                return [(counts[:at] + (count - 1,) + counts[at + 1:], dues, self.better[at].length, 0)]
        if dues:
            self.greatest = max(self.greatest, self.message.length - dues[0])
            return [(counts, dues[1:], self.message.length, 0)]
        return [(counts, dues, length, 0) for length in [0] + self.lengths]


def too_much(messages):
    """Whether frames of the messages may need more than all ticks."""
    product = 1
    for message in messages:
        product *= message.gap
    return sum(message.length * product // message.gap for message in messages) > product


def orders(messages):
    return [list(order) for order in itertools.permutations(messages)]


def better_of(ranking, message):
    return [other.name for other in ranking[:ranking.index(message)]]


def other_way_about(ranking, other):
    """How many pairs of messages stand the other way about in the two rankings of the same messages."""
    return sum(other.index(first) > other.index(second) for first, second in itertools.combinations(ranking, 2))


def changed(message, **numbers):
    """The message with some other numbers."""
    fields = {field: getattr(message, field) for field in ("name", "gap", "length", "jitter", "last")}
    return Message(**{**fields, **numbers})
