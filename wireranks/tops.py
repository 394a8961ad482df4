"""Which messages keep their last times behind which others.

A set of messages is a number with a bit for each place of the list of messages. Whether a message keeps its last time
hangs only on the sets of the better and of the worse ones. It does so behind any part of a set behind which it does:
what moves from the better ones to the worse ones takes at least one tick less of the wire.
"""

from wireranks.delays import keeps_between


def members(places):
    """The places in a set, in ascending order."""
    return [at for at in range(places.bit_length()) if places >> at & 1]


class Tops:
    """The sets of messages that may stand on top of a ranking that keeps."""

    def __init__(self, messages, pause):
        self._messages = list(messages)
        self._pause = pause
        self._known = {}

    def whole(self):
        """The set of all messages."""
        return (1 << len(self._messages)) - 1

    def listed(self, places):
        """The messages of a set, in the order of the list."""
        return [self._messages[at] for at in members(places)]

    def keeps(self, at, better, worse):
        """Whether the message at this place keeps its last time between these sets."""
        below = self.listed(worse)
        # Of the worse ones only the longest frame counts.
        key = (at, better, max([message.length for message in below], default=1))
        if key not in self._known:
            self._known[key] = keeps_between(self.listed(better), self._messages[at], below, self._pause)
        return self._known[key]

    def _lowest(self, tops, calling, spared):
        for at in members(tops):
            if at != spared and self.keeps(at, tops ^ (1 << at), calling ^ tops):
                return at
        return None

    def sunk(self, tops, calling, spared):
        """Takes from a set of tops, as long as there is one, a message that keeps as the last of them.

        Returns the set of those left and the list of the places of those taken, the best first. `calling` is the set
        of all messages that call, among which are the tops; the one at the place `spared` is not taken.
        """
        taken = []
        at = self._lowest(tops, calling, spared)
        while at is not None:
            tops ^= 1 << at
            taken.append(at)
            at = self._lowest(tops, calling, spared)
        return tops, taken[::-1]

    def lasts(self):
        """For each set left where messages that keep are taken from the end: the set of those that keep as its last."""
        found = {self.whole(): 0}
        for tops in range(self.whole(), 0, -1):
            if tops not in found:
                continue
            known = found[tops]
            last = known
            for at in members(tops ^ known):
                if self.keeps(at, tops ^ (1 << at), self.whole() ^ tops):
                    last |= 1 << at
            found[tops] = last
            for at in members(last):
                less = tops ^ (1 << at)
                # What keeps as the last of a set keeps as the last of a part of it, too.
                found[less] = found.get(less, 0) | last ^ (1 << at)
        return found
