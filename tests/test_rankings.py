import itertools
import random
import unittest

from tests import plain
from wireranks.delays import greatest, keeps
from wireranks.messages import Message
from wireranks.rankings import bars, bears, closest, counted, dropped, longest, places, ranked, soonest, way

A, B, C = Message("a", 5, 2, 0, 5), Message("b", 7, 2, 0, 7), Message("c", 7, 2, 0, 7)
X, Y = Message("x", 3, 2, 0, 2), Message("y", 9, 2, 0, 9)


def some_messages(rnd, count):
    """Small messages, some of which may fail, with last times near what some ranking gives them."""
    messages = [Message(name, rnd.choice([3, 5, 6, 10, 12, 15, 20, 30]), rnd.randint(1, 4), rnd.choice([0, 0, 1, 4]),
                        rnd.randint(1, 40)) for name in "abcde"[:count]]
    if rnd.random() < 0.8:
        told = []
        for message in messages:
            delay = greatest(messages, message.name, 1)
            last = message.last if delay is None else max(1, delay + rnd.choice([-2, 0, 0, 2, 5]))
            told.append(plain.changed(message, last=last))
        messages = told
    rnd.shuffle(messages)
    return messages


def samples(seed, many, most):
    rnd = random.Random(seed)
    return [(some_messages(rnd, max(rnd.randint(1, most), rnd.randint(1, most))), rnd.choice([0, 0, 1, 2, 5])) for _ in range(many)]


def keeping(messages, pause):
    """All rankings that keep, by trying all orders."""
    return [order for order in plain.orders(messages) if keeps(order, pause)]


def is_lot(messages, lot, pause):
    """[40], in the rankings that the document names."""
    for message in lot:
        better = [other for other in lot if other != message]
        ranking = better + [message] + [other for other in messages if other not in lot]
        delay = greatest(ranking, message.name, pause)
        if delay is not None and delay <= message.last:
            return False
    return True


def parts(values):
    """All lists of at least one of the values."""
    return [list(part) for count in range(1, len(values) + 1) for part in itertools.combinations(values, count)]


class Ranked(unittest.TestCase):
    """[40]"""

    def assert_ranked(self, messages, pause):
        told = ranked(messages, pause)
        self.assertIs(type(told), tuple)
        orders = keeping(messages, pause)
        if orders:
            self.assertEqual((told[0], len(told)), ("ranking", 2))
            self.assertIs(type(told[1]), list)
            self.assertIn(told[1], orders)
            return told[0]
        self.assertEqual((told[0], len(told)), ("lot", 3))
        _, lot, others = told
        self.assertIs(type(lot), list)
        self.assertIs(type(others), list)
        lots = [part for part in parts(messages) if is_lot(messages, part, pause)]
        self.assertEqual(lot, [message for message in messages if any(message in part for part in lots)])
        self.assertIn(lot, lots)
        self.assertEqual(sorted(one.name for one in lot + others), sorted(one.name for one in messages))
        for top in itertools.islice(itertools.permutations(lot), 6):
            ranking = list(top) + others
            for message in others:
                delay = greatest(ranking, message.name, pause)
                self.assertTrue(delay is not None and delay <= message.last)
        return (told[0], len(lot) < len(messages), len(lot) > 1)

    def test_a_ranking(self):
        self.assertIn(ranked([A, B, C], 0)[1], [[A, B, C], [A, C, B], [B, A, C], [C, A, B]])
        self.assertEqual(ranked([C, B], 1)[0], "ranking")
        self.assertEqual(ranked(pause=0, messages=[A]), ("ranking", [A]))

    def test_a_lot(self):
        self.assertEqual(ranked([Y, X], 0), ("lot", [X], [Y]))
        self.assertEqual(ranked([X, Y], 0), ("lot", [X], [Y]))
        self.assertEqual(ranked([Y, X], 1), ("lot", [X], [Y]))
        self.assertEqual(ranked([Y, X], 8), ("lot", [Y, X], []))

    def test_one_message(self):
        self.assertEqual(ranked([A], 3), ("ranking", [A]))
        self.assertEqual(ranked([A], 4), ("lot", [A], []))

    def test_against_all_orders(self):
        kinds = []
        for messages, pause in samples(40, 1200, 5):
            kinds.append(self.assert_ranked(messages, pause))
        self.assertGreater(kinds.count("ranking"), 80)
        self.assertGreater(kinds.count(("lot", True, True)), 20)
        self.assertGreater(kinds.count(("lot", False, True)), 20)

    def test_a_lot_in_the_order_of_the_messages(self):
        rnd = random.Random(41)
        for messages, pause in samples(42, 100, 4):
            other = list(messages)
            rnd.shuffle(other)
            one, two = ranked(messages, pause), ranked(other, pause)
            self.assertEqual(one[0], two[0])
            if one[0] == "lot":
                self.assertEqual([message for message in other if message in one[1]], two[1])


class Bears(unittest.TestCase):
    """[41]"""

    def assert_bears(self, messages):
        told = bears(messages)
        if not keeping(messages, 0):
            self.assertIsNone(told)
            return None
        self.assertIs(type(told), tuple)
        pause, ranking = told
        self.assertIs(type(ranking), list)
        self.assertIn(ranking, keeping(messages, pause))
        self.assertEqual(keeping(messages, pause + 1), [])
        return pause

    def test_one_message(self):
        self.assertEqual(bears([Y]), (7, [Y]))
        self.assertEqual(bears(messages=[Message("a", 5, 2, 1, 3)]), (0, [Message("a", 5, 2, 1, 3)]))
        self.assertIsNone(bears([Message("a", 5, 2, 1, 2)]))
        self.assertIsNone(bears([Message("a", 5, 6, 0, 1000)]))
        self.assertIsNone(bears([Message("a", 1, 1, 1, 1)]))
        self.assertEqual(bears([Message("a", 1, 1, 0, 1)]), (0, [Message("a", 1, 1, 0, 1)]))

    def test_above_the_limit(self):
        message = Message("a", 100, 1, 0, 1000)
        self.assertEqual(bears([message]), (999, [message]))
        self.assertEqual(bears([message, Message("b", 100, 1, 0, 1000)])[0], 989)

    def test_no_ranking(self):
        self.assertIsNone(bears([X, Y]))

    def test_not_any_ranking_will_do(self):
        messages = [Message("a", 20, 3, 0, 20), Message("b", 20, 3, 0, 9)]
        self.assertEqual(bears(messages), (4, [messages[1], messages[0]]))

    def test_against_all_orders(self):
        pauses = [self.assert_bears(messages) for messages, _ in samples(43, 300, 4)]
        self.assertGreater(pauses.count(None), 50)
        self.assertGreater(pauses.count(0), 10)
        self.assertGreater(len([pause for pause in pauses if pause]), 50)


class Counted(unittest.TestCase):
    """[42]"""

    def test_few_messages(self):
        self.assertEqual(counted([A, B, C], 0), 4)
        self.assertEqual(counted([X, Y], 0), 0)
        self.assertEqual(counted(pause=7, messages=[Y]), 1)
        self.assertEqual(counted([Y], 8), 0)

    def test_all_of_them(self):
        for count, expected in ((1, 1), (2, 2), (3, 6), (8, 40320)):
            messages = [Message(name, 100, 1, 0, 1000) for name in "abcdefgh"[:count]]
            self.assertEqual(counted(messages, 200), expected)

    def test_against_all_orders(self):
        counts = []
        for messages, pause in samples(44, 1200, 5):
            counts.append(counted(messages, pause))
            self.assertEqual(counts[-1], len(keeping(messages, pause)))
        self.assertGreater(counts.count(0), 50)
        self.assertGreater(len(set(counts)), 15)


class Longest(unittest.TestCase):
    """[43]: the greatest length."""

    def assert_longest(self, messages, name, pause):
        told = longest(messages, name, pause)
        at = [message.name for message in messages].index(name)
        lengths = []
        for length in range(1, messages[at].gap + 3):
            other = messages[:at] + [plain.changed(messages[at], length=length)] + messages[at + 1:]
            if keeping(other, pause):
                lengths.append(length)
        self.assertEqual(told, lengths[-1] if lengths else None)
        return told, messages[at].length

    def test_examples(self):
        self.assertEqual(longest([X, Y], "y", 0), 1)
        self.assertEqual(longest(name="x", pause=0, messages=[Y, X]), 1)
        self.assertEqual(longest([X, Y], "x", 0), 1)
        self.assertIsNone(longest([X, Y], "y", 1))

    def test_one_message(self):
        self.assertEqual(longest([Message("a", 5, 1, 0, 1000)], "a", 0), 5)
        self.assertEqual(longest([Message("a", 100, 1, 0, 1000)], "a", 200), 100)
        self.assertEqual(longest([Message("a", 100, 1, 50, 130)], "a", 20), 60)
        self.assertEqual(longest([Message("a", 100, 100, 0, 1)], "a", 0), 1)
        self.assertIsNone(longest([Message("a", 100, 1, 0, 1)], "a", 1))
        self.assertEqual(longest([Message("a", 1, 100, 0, 1)], "a", 0), 1)

    def test_against_all_lengths(self):
        answers = []
        for messages, pause in samples(45, 120, 4):
            for message in messages:
                answers.append(self.assert_longest(messages, message.name, pause))
        self.assertGreater(len([1 for told, _ in answers if told is None]), 30)
        self.assertGreater(len([1 for told, length in answers if told is not None and told < length]), 15)
        self.assertGreater(len([1 for told, length in answers if told is not None and told > length]), 30)


class Soonest(unittest.TestCase):
    """[43]: the least last time."""

    def assert_soonest(self, messages, name, pause):
        told = soonest(messages, name, pause)
        at = [message.name for message in messages].index(name)
        lasts = []
        for order in plain.orders(messages):
            last = greatest(order, name, pause)
            endless = [message if message.name != name else plain.changed(message, last=10 ** 9) for message in order]
            if keeps(endless, pause):
                lasts.append(last)
        self.assertEqual(told, min(lasts, default=None))
        if told is not None:
            for last, expected in ((told - 1, False), (told, True)):
                if last:
                    other = messages[:at] + [plain.changed(messages[at], last=last)] + messages[at + 1:]
                    self.assertIs(bool(keeping(other, pause)), expected)
        return told, messages[at].last

    def test_examples(self):
        self.assertEqual(soonest([X, Y], "x", 0), 3)
        self.assertEqual(soonest(pause=0, name="x", messages=[Y, X]), 3)
        self.assertIsNone(soonest([X, Y], "y", 0))

    def test_above_the_limit(self):
        messages = [Message("a", 100, 99, 200, 1000), Message("b", 100, 1, 200, 1)]
        self.assertEqual(soonest([messages[1]], "b", 200), 401)
        self.assertEqual(soonest(messages, "b", 200), 499)
        tight = [plain.changed(messages[0], last=499), messages[1]]
        told = soonest(tight, "b", 200)
        self.assertEqual(told, greatest(tight, "b", 200))
        self.assertGreater(told, 1000)

    def test_none_however_great_it_is(self):
        self.assertIsNone(soonest([Message("a", 2, 2, 0, 2), Message("b", 9, 1, 0, 1)], "b", 0))
        self.assertIsNone(soonest([Message("b", 9, 10, 0, 1)], "b", 0))
        self.assertIsNone(soonest([Message("a", 9, 9, 0, 8), Message("b", 900, 1, 0, 1)], "b", 0))

    def test_against_all_orders(self):
        answers = []
        for messages, pause in samples(46, 150, 4):
            for message in messages:
                answers.append(self.assert_soonest(messages, message.name, pause))
        self.assertGreater(len([1 for told, _ in answers if told is None]), 30)
        self.assertGreater(len([1 for told, last in answers if told is not None and told < last]), 30)
        self.assertGreater(len([1 for told, last in answers if told is not None and told > last]), 30)


class Bars(unittest.TestCase):
    """[44]: whether messages are a lot."""

    def test_examples(self):
        self.assertIs(bars([X, Y], ["x"], 0), True)
        self.assertIs(bars([X, Y], ["y"], 0), False)
        self.assertIs(bars(names=["x", "y"], pause=0, messages=[X, Y]), False)
        self.assertIs(bars([X, Y], ["y"], 8), True)
        self.assertIs(bars([X, Y], ["y", "x"], 8), True)

    def test_against_the_definition(self):
        rnd = random.Random(47)
        answers = []
        for messages, pause in samples(48, 150, 4):
            for part in parts(messages):
                names = [message.name for message in part]
                rnd.shuffle(names)
                answers.append(is_lot(messages, part, pause))
                self.assertIs(bars(messages, names, pause), answers[-1])
        self.assertGreater(answers.count(True), 100)
        self.assertGreater(answers.count(False), 100)

    def test_the_lot_of_ranked(self):
        for messages, pause in samples(49, 200, 5):
            told = ranked(messages, pause)
            if told[0] == "lot":
                names = [message.name for message in told[1]]
                self.assertIs(bars(messages, names, pause), True)


class Dropped(unittest.TestCase):
    """[44]: as few messages as possible."""

    def assert_dropped(self, messages, pause):
        told = dropped(messages, pause)
        self.assertIs(type(told), list)
        self.assertEqual(len({message.name for message in told}), len(told))
        self.assertTrue(all(message in messages for message in told))
        left = [message for message in messages if message not in told]
        self.assertTrue(not left or keeping(left, pause))
        most = max([len(part) for part in parts(messages) if keeping(part, pause)], default=0)
        self.assertEqual(len(told), len(messages) - most)
        return len(told), len(messages)

    def test_examples(self):
        self.assertIn(dropped([X, Y], 0), [[X], [Y]])
        self.assertEqual(dropped([X, Y], 1), [X])
        self.assertEqual(dropped([A, B, C], 0), [])
        self.assertEqual(dropped(pause=0, messages=[A]), [])
        self.assertEqual(dropped([A], 4), [A])

    def test_all_of_them(self):
        self.assertEqual(sorted(message.name for message in dropped([A, B, C, X, Y], 200)), list("abcxy"))

    def test_dropped_ones_never_call(self):
        # Only without the long one the other two keep: dropped, it does not even take the wire from below.
        messages = [Message("a", 20, 1, 0, 1), Message("b", 20, 1, 0, 2), Message("c", 100, 3, 0, 100)]
        self.assertEqual(dropped(messages, 0), [messages[2]])

    def test_against_all_parts(self):
        answers = [self.assert_dropped(messages, pause) for messages, pause in samples(50, 400, 5)]
        self.assertGreater(len([1 for count, _ in answers if count == 0]), 20)
        self.assertGreater(len([1 for count, _ in answers if count > 1]), 20)
        self.assertGreater(len([1 for count, whole in answers if count == whole]), 0)


class Places(unittest.TestCase):
    """[45]: places of a message."""

    def test_examples(self):
        self.assertEqual(places([A, B, C], "a", 0), [0, 1])
        self.assertEqual(places(name="b", messages=[A, B, C], pause=0), [0, 1, 2])
        self.assertEqual(places([X, Y], "x", 0), [])
        self.assertEqual(places([Y], "y", 7), [0])
        self.assertEqual(places([Y], "y", 8), [])

    def test_all_of_them(self):
        messages = [Message(name, 100, 1, 0, 1000) for name in "abcdefgh"]
        for message in messages:
            self.assertEqual(places(messages, message.name, 200), list(range(8)))

    def test_against_all_orders(self):
        answers = []
        for messages, pause in samples(51, 250, 5):
            orders = keeping(messages, pause)
            for message in messages:
                answers.append(places(messages, message.name, pause))
                self.assertIs(type(answers[-1]), list)
                self.assertEqual(answers[-1], sorted({order.index(message) for order in orders}))
        self.assertGreater(answers.count([]), 50)
        self.assertGreater(answers.count([1]), 10)
        self.assertGreater(answers.count([0, 1, 2]), 10)


class Closest(unittest.TestCase):
    """[45]: the ranking that is closest to another."""

    def test_examples(self):
        self.assertIn(closest([B, C, A], 0), [(1, [B, A, C])])
        self.assertEqual(closest(pause=0, ranking=[A, B, C]), (0, [A, B, C]))
        self.assertIsNone(closest([X, Y], 0))
        self.assertEqual(closest([Y], 7), (0, [Y]))
        self.assertIsNone(closest([Y], 8))

    def test_against_all_orders(self):
        answers = []
        for messages, pause in samples(52, 1200, 5):
            orders = keeping(messages, pause)
            told = closest(messages, pause)
            if not orders:
                self.assertIsNone(told)
                continue
            self.assertIs(type(told), tuple)
            number, ranking = told
            answers.append(number)
            self.assertIs(type(ranking), list)
            self.assertIn(ranking, orders)
            self.assertEqual(number, plain.other_way_about(messages, ranking))
            self.assertEqual(number, min(plain.other_way_about(messages, order) for order in orders))
        self.assertGreater(len(set(answers)), 5)


class Way(unittest.TestCase):
    """[46]"""

    def assert_way(self, ranking, other, pause):
        told = way(ranking, other, pause)
        if not keeps(ranking, pause) or not keeps(other, pause):
            self.assertIsNone(told)
            return None
        self.assertIs(type(told), list)
        self.assertEqual((told[0], told[-1]), (ranking, other))
        self.assertEqual(len(told), plain.other_way_about(ranking, other) + 1)
        for step in told:
            self.assertIs(type(step), list)
            self.assertTrue(keeps(step, pause))
        for step, following in zip(told, told[1:]):
            self.assertEqual(plain.other_way_about(step, following), 1)
        return len(told)

    def test_examples(self):
        self.assertEqual(way([B, A, C], [C, A, B], 0), [[B, A, C], [A, B, C], [A, C, B], [C, A, B]])
        self.assertEqual(way(other=[A, B], pause=0, ranking=[A, B]), [[A, B]])
        self.assertEqual(way([Y], [Y], 7), [[Y]])
        self.assertIsNone(way([Y], [Y], 8))
        self.assertIsNone(way([A, B, C], [B, C, A], 0))
        self.assertIsNone(way([B, C, A], [A, B, C], 0))
        self.assertIsNone(way([B, C, A], [B, C, A], 0))

    def test_equal_messages(self):
        twins = [Message("a", 5, 2, 0, 5), Message("c", 7, 2, 0, 7), Message("b", 7, 2, 0, 7)]
        self.assertEqual(way([A, B, C], twins, 0), [[A, B, C], [A, C, B]])

    def test_against_all_orders(self):
        rnd = random.Random(53)
        lengths = []
        for messages, pause in samples(54, 400, 5):
            orders = keeping(messages, pause)
            for _ in range(5):
                if orders:
                    lengths.append(self.assert_way(rnd.choice(orders), rnd.choice(orders), pause))
                other = list(messages)
                rnd.shuffle(other)
                lengths.append(self.assert_way(messages, other, pause))
        self.assertGreater(lengths.count(None), 100)
        self.assertGreater(lengths.count(1), 50)
        self.assertGreater(len(set(lengths)), 9)


class Rankings(unittest.TestCase):
    """What the points of section 6 tell of each other."""

    def test_all_answer_alike(self):
        for messages, pause in samples(55, 200, 5):
            found = ranked(messages, pause)[0] == "ranking"
            borne = bears(messages)
            self.assertIs(borne is not None and borne[0] >= pause, found)
            self.assertIs(counted(messages, pause) > 0, found)
            self.assertIs(closest(messages, pause) is not None, found)
            self.assertIs(dropped(messages, pause) == [], found)
            for message in messages:
                self.assertIs(places(messages, message.name, pause) != [], found)
                length = longest(messages, message.name, pause)
                self.assertIs(length is not None and length >= message.length, found)
                last = soonest(messages, message.name, pause)
                self.assertIs(last is not None and last <= message.last, found)

    def test_keeping_hangs_on_the_better_ones_only(self):
        for messages, pause in samples(56, 60, 4):
            seen = {}
            for order in plain.orders(messages):
                for message in messages:
                    key = (message.name, tuple(sorted(plain.better_of(order, message))))
                    seen.setdefault(key, set()).add(greatest(order, message.name, pause))
            self.assertTrue(all(len(delays) == 1 for delays in seen.values()))


if __name__ == "__main__":
    unittest.main()
