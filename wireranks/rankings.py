"""Rankings in which every message keeps its last time, and lots that bar them."""

from itertools import combinations

from wireranks.checks import check_number
from wireranks.delays import greatest_between, keeps, keeps_between
from wireranks.errors import InvalidMessages, InvalidName
from wireranks.messages import Message, check_messages, check_name, names_of
from wireranks.tops import Tops, members


def _found(messages, pause):
    """Any ranking that keeps, None if there is none."""
    tops = Tops(messages, pause)
    left, taken = tops.sunk(tops.whole(), tops.whole(), None)
    if left:
        return None
    return [messages[at] for at in taken]


def _most(good, bad, passes):
    """The greatest number that passes: `good` does, `bad` does not, and no number behind one that does not passes."""
    while bad - good > 1:
        middle = (good + bad) // 2
        if passes(middle):
            good = middle
        else:
            bad = middle
    return good


def ranked(messages, pause):
    """("ranking", list) with a ranking that keeps, or ("lot", list, others) with the greatest lot."""
    check_messages(messages)
    check_number(pause, 0)
    tops = Tops(messages, pause)
    left, taken = tops.sunk(tops.whole(), tops.whole(), None)
    others = [messages[at] for at in taken]
    if left:
        return "lot", tops.listed(left), others
    return "ranking", others


def bears(messages):
    """The greatest pause with which some ranking keeps, and such a ranking; None if none does."""
    check_messages(messages)
    if _found(messages, 0) is None:
        return None
    # A frame comes later than the pause is long, so that no message keeps with a pause as long as its last time.
    least = min([message.last for message in messages])
    pause = _most(0, least, lambda length: _found(messages, length) is not None)
    return pause, _found(messages, pause)


def counted(messages, pause):
    """How many rankings keep."""
    check_messages(messages)
    check_number(pause, 0)
    tops = Tops(messages, pause)
    return _counts(tops.lasts())[tops.whole()]


def _counts(lasts):
    """For each of the sets, in how many orders it may stand on top of a ranking that keeps."""
    counts = {0: 1}
    for tops in sorted(lasts):
        if tops:
            counts[tops] = sum([counts[tops ^ (1 << at)] for at in members(lasts[tops])])
    return counts


def longest(messages, name, pause):
    """The greatest length of the named message with which some ranking keeps, None if there is none."""
    check_messages(messages)
    check_name(messages, name)
    check_number(pause, 0)
    at = names_of(messages).index(name)
    old = messages[at]

    def passes(length):
        new = Message(name, old.gap, length, old.jitter, old.last)
        return _found(messages[:at] + [new] + messages[at + 1:], pause) is not None

    if not passes(1):
        return None
    # Frames longer than their gap need more than all ticks.
    return _most(1, old.gap + 1, passes)


def soonest(messages, name, pause):
    """The least last time of the named message with which some ranking keeps, None if there is none."""
    check_messages(messages)
    check_name(messages, name)
    check_number(pause, 0)
    at = names_of(messages).index(name)
    tops = Tops(messages, pause)
    # All that can stand below the named one does: those left are better than it in every ranking that keeps.
    left, _ = tops.sunk(tops.whole(), tops.whole(), at)
    better = left ^ (1 << at)
    barred, _ = tops.sunk(better, tops.whole(), None)
    if barred:
        return None
    return greatest_between(tops.listed(better), messages[at], tops.listed(tops.whole() ^ left), pause)


def _are_names(messages, values):
    """Whether the value is a list of at least one name of a message, all different."""
    if not isinstance(values, list) or not values:
        return False
    names = names_of(messages)
    if not all([value in names for value in values]):
        return False
    return len(set(values)) == len(values)


def bars(messages, names, pause):
    """Whether the messages named are a lot."""
    check_messages(messages)
    if not _are_names(messages, names):
        raise InvalidName(names)
    check_number(pause, 0)
    lot = [message for message in messages if message.name in names]
    others = [message for message in messages if message.name not in names]
    for at, message in enumerate(lot):
        if keeps_between(lot[:at] + lot[at + 1:], message, others, pause):
            return False
    return True


def dropped(messages, pause):
    """As few messages as possible without which no message is left or some ranking of those left keeps."""
    check_messages(messages)
    check_number(pause, 0)
    tops = Tops(messages, pause)
    for count in range(len(messages)):
        for gone in combinations(range(len(messages)), count):
            left = tops.whole() ^ sum([1 << at for at in gone])
            barred, _ = tops.sunk(left, left, None)
            if not barred:
                return [messages[at] for at in gone]
    return list(messages)


def places(messages, name, pause):
    """How many better messages the named one may have in a ranking that keeps: all such numbers, ascending."""
    check_messages(messages)
    check_name(messages, name)
    check_number(pause, 0)
    at = names_of(messages).index(name)
    lasts = Tops(messages, pause).lasts()
    counts = _counts(lasts)
    return sorted({len(members(tops)) - 1 for tops in lasts if lasts[tops] >> at & 1 and counts[tops ^ (1 << at)]})


def closest(ranking, pause):
    """The least number of pairs that stand the other way about in a ranking that keeps, and such a ranking.

    None if no ranking keeps.
    """
    check_messages(ranking)
    check_number(pause, 0)
    tops = Tops(ranking, pause)
    lasts = tops.lasts()
    best = {0: (0, [])}
    for top in sorted(lasts):
        for at in members(lasts[top]):
            less = top ^ (1 << at)
            if less not in best:
                continue
            number, order = best[less]
            # Those of the better ones that stand behind this message in the ranking stand the other way about now.
            number += len(members(less >> at))
            if top not in best or number < best[top][0]:
                best[top] = (number, order + [ranking[at]])
    return best.get(tops.whole())


def way(ranking, other, pause):
    """Rankings from the one to the other, each of which keeps and comes from the one before by one exchange.

    None if the one or the other does not keep.
    """
    check_messages(ranking)
    check_messages(other)
    if len(other) != len(ranking) or not all([message in ranking for message in other]):
        raise InvalidMessages(other)
    check_number(pause, 0)
    if not keeps(ranking, pause) or not keeps(other, pause):
        return None
    current = list(ranking)
    steps = [list(current)]
    # The message that is to stand last sinks first: it keeps even below all those that it passes, they rise only.
    for end in range(len(other) - 1, 0, -1):
        at = current.index(other[end])
        while at < end:
            current[at], current[at + 1] = current[at + 1], current[at]
            steps.append(list(current))
            at += 1
    return steps
