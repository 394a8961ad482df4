"""[3]: eight messages at the limits, and somewhat beyond; each function answers, and as by trying all orders."""

import itertools
import random
import unittest

from tests import plain
from wireranks.delays import greatest, keeps, worst
from wireranks.messages import Message
from wireranks.rankings import bars, bears, closest, counted, dropped, longest, places, ranked, soonest, way
from wireranks.wires import fits, played

NAMES = "abcdefghijk"
PERIODS = (700, 696, 690, 672, 660, 630, 600, 504)


def filled(rnd, period, count, spare):
    """Messages whose gaps divide a period and whose frames need nearly all ticks, or just all where `spare` is 0."""
    gaps = [gap for gap in range(count, 101) if period % gap == 0]
    chosen = [rnd.choice(gaps) for _ in range(count)]
    lengths = [1] * count
    left = period - spare - sum(period // gap for gap in chosen)
    for at in [rnd.randrange(count) for _ in range(300)] + list(range(count)):
        if period // chosen[at] <= left and lengths[at] < 100:
            lengths[at] += 1
            left -= period // chosen[at]
    return [Message(name, gap, length, rnd.choice([0, 1, 30, 200]), 1000)
            for name, gap, length in zip(NAMES, chosen, lengths)]


def tightened(rnd, messages, pause, slack):
    """The messages with last times near what a ranking gives them."""
    told = []
    for message in messages:
        delay = greatest(messages, message.name, pause)
        last = 1000 if delay is None else max(1, min(1000, delay + rnd.choice(slack)))
        told.append(plain.changed(message, last=last))
    rnd.shuffle(told)
    return told


def samples(seed, many, count=8, periods=PERIODS):
    rnd = random.Random(seed)
    for at in range(many):
        messages = filled(rnd, rnd.choice(periods), count, rnd.choice([0, 0, 5, 60, 200]))
        pause = rnd.choice([0, 0, 3, 40, 200])
        slack = ([0, 0, 10, 80], [0, 20, 300], [-3, 0, 30], [1000])[at % 4]
        yield tightened(rnd, messages, pause, slack), pause


class Tried:
    """All rankings that keep, by the greatest delay of each message behind each set of the others."""

    def __init__(self, messages, pause):
        self.keeps = {}
        for message in messages:
            others = [other for other in messages if other != message]
            for count in range(len(messages)):
                for better in itertools.combinations(others, count):
                    worse = [other for other in others if other not in better]
                    delay = greatest([*better, message, *worse], message.name, pause)
                    names = frozenset(other.name for other in better)
                    self.keeps[message.name, names] = delay is not None and delay <= message.last
        self.orders = []
        self.go(frozenset(), [], [message.name for message in messages])

    def go(self, better, order, left):
        if not left:
            self.orders.append(order)
        for name in left:
            if self.keeps[name, better]:
                self.go(better | {name}, order + [name], [other for other in left if other != name])


def names_of(messages):
    return [message.name for message in messages]


class Limits(unittest.TestCase):
    def test_against_all_orders(self):
        found = 0
        for messages, pause in samples(60, 12):
            orders = Tried(messages, pause).orders
            found += bool(orders)
            self.assertEqual(counted(messages, pause), len(orders))
            self.assertEqual(ranked(messages, pause)[0], "ranking" if orders else "lot")
            if not orders:
                self.assertIsNone(closest(messages, pause))
                continue
            self.assertIn(names_of(ranked(messages, pause)[1]), orders)
            for at in range(8):
                expected = sorted({order.index(messages[at].name) for order in orders})
                self.assertEqual(places(messages, messages[at].name, pause), expected)
            number, ranking = closest(messages, pause)
            self.assertIn(names_of(ranking), orders)
            names = names_of(messages)
            self.assertEqual(number, plain.other_way_about(names, names_of(ranking)))
            for order in orders[::1 + len(orders) // 2000]:
                self.assertLessEqual(number, plain.other_way_about(names, order))
        self.assertGreater(found, 5)

    def assert_answers(self, messages, pause):
        """Each function answers, and what it returns holds."""
        for message in messages:
            delay = greatest(messages, message.name, pause)
            told = worst(messages, message.name, pause)
            self.assertEqual(delay, None if told is None else told[0])
            if told is not None:
                self.assertTrue(fits(messages, told[1]))
                frames = played(messages, told[1], (0, pause) if pause else None)
                self.assertEqual(max(end - due for name, due, _, end in frames if name == message.name), delay)
        told = ranked(messages, pause)
        borne = bears(messages)
        self.assertIs(borne is not None and borne[0] >= pause, told[0] == "ranking")
        if borne is not None:
            self.assertTrue(keeps(borne[1], borne[0]))
            self.assertEqual(counted(messages, borne[0] + 1), 0)
        self.assertIs(counted(messages, pause) > 0, told[0] == "ranking")
        for message in messages:
            self.assertIs(places(messages, message.name, pause) != [], told[0] == "ranking")
            self.assert_numbers(messages, message, pause)
        gone = dropped(messages, pause)
        self.assertIs(gone == [], told[0] == "ranking")
        left = [message for message in messages if message not in gone]
        self.assertTrue(not left or ranked(left, pause)[0] == "ranking")
        if told[0] == "lot":
            self.assertTrue(bars(messages, names_of(told[1]), pause))
            return
        number, ranking = closest(messages[::-1], pause)
        self.assertEqual(len(way(told[1], ranking, pause)), plain.other_way_about(told[1], ranking) + 1)
        self.assertEqual(number, plain.other_way_about(messages[::-1], ranking))

    def assert_numbers(self, messages, message, pause):
        """A ranking keeps with the length and with the last time told, but not with the next length or last time."""
        at = messages.index(message)
        length, last = longest(messages, message.name, pause), soonest(messages, message.name, pause)
        for field, number, step in (("length", length, 1), ("last", last, -1)):
            for value, expected in ((number, "ranking"), (number and number + step, "lot")):
                if value:
                    other = messages[:at] + [plain.changed(message, **{field: value})] + messages[at + 1:]
                    self.assertEqual(ranked(other, pause)[0], expected)

    def test_each_answers(self):
        for messages, pause in samples(61, 60):
            self.assert_answers(messages, pause)

    def test_each_answers_beyond(self):
        for messages, pause in samples(62, 12, 10, (1000, 960, 840, 1050)):
            self.assert_answers(messages, pause + 100)

    def test_the_greatest_numbers(self):
        for jitter, last, pause in itertools.product((0, 200), (1, 1000), (0, 200)):
            for gap, length in ((100, 100), (100, 13), (100, 12), (1, 1), (7, 1), (8, 1), (100, 1)):
                self.assert_answers([Message(name, gap, length, jitter, last) for name in NAMES[:8]], pause)

    def test_frames_that_need_more_than_all_ticks_by_little(self):
        messages = [Message("a", 2, 1, 200, 1000), Message("b", 4, 1, 200, 1000), Message("c", 8, 1, 200, 1000),
                    Message("d", 16, 1, 200, 1000), Message("e", 32, 1, 200, 1000), Message("f", 64, 1, 200, 1000),
                    Message("g", 64, 1, 200, 1000), Message("h", 100, 1, 200, 1000)]
        self.assert_answers(messages, 200)
        self.assert_answers(messages[:7], 200)
        self.assertIsNone(greatest(messages, "h", 0))
        self.assertIsNotNone(greatest(messages, "g", 200))


if __name__ == "__main__":
    unittest.main()
