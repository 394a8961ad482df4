import itertools
import random
import unittest

from tests import plain
from wireranks.errors import InvalidCalls
from wireranks.messages import Message
from wireranks.wires import fits, played

A = Message("a", 5, 2, 1, 9)
B = Message("b", 8, 3, 0, 9)
FAR = 10 ** 12 - 1


def some_messages(rnd, count):
    return [Message(name, rnd.randint(1, 5), rnd.randint(1, 4), rnd.choice([0, 0, 1, 2, 6]), 9) for name in "abcd"[:count]]


def some_history(rnd, messages, most, start):
    """Calls that are a history, in any order."""
    calls = []
    for message in messages:
        due = start + rnd.randint(-4, 4)
        queued = due
        for _ in range(rnd.randint(0, most)):
            queued = rnd.randint(max(due, queued), due + message.jitter)
            calls.append((message.name, due, queued))
            due += message.gap + rnd.choice([0, 0, 0, 1, 7])
            queued = max(queued, due)
            if queued > due + message.jitter:
                break
    rnd.shuffle(calls)
    return calls


class Fits(unittest.TestCase):
    """[20]: whether a list of calls is a history."""

    def test_no_calls(self):
        self.assertIs(fits([A], []), True)
        self.assertIs(fits([B, A], []), True)

    def test_arguments_by_name(self):
        self.assertIs(fits(calls=[("a", 0, 0)], messages=[A]), True)
        self.assertIs(fits([A], calls=[("a", 0, 2)]), False)

    def test_queued_from_due_to_jitter(self):
        for due in (-FAR, -3, 0, 7, FAR):
            for jitter in (0, 1, 5, 200):
                message = plain.changed(A, jitter=jitter)
                for late, expected in ((-1, False), (0, True), (jitter, True), (jitter + 1, False)):
                    self.assertIs(fits([message], [("a", due, due + late)]), expected)

    def test_gap(self):
        for gap in (1, 2, 5, 100):
            message = plain.changed(A, gap=gap, jitter=0)
            for first in (-FAR, -7, 0, 3):
                for apart, expected in ((0, False), (gap - 1, False), (gap, True), (gap + 1, True), (2 * gap, True)):
                    calls = [("a", first, first), ("a", first + apart, first + apart)]
                    self.assertIs(fits([message], calls), expected)
                    self.assertIs(fits([message], calls[::-1]), expected)

    def test_the_same_call_twice(self):
        self.assertIs(fits([A], [("a", 0, 0), ("a", 0, 0)]), False)
        self.assertIs(fits([A], [("a", 0, 0), ("a", 0, 1)]), False)
        self.assertIs(fits([A, B], [("a", 0, 0), ("b", 0, 0)]), True)

    def test_the_later_due_is_not_queued_earlier(self):
        message = Message("a", 2, 1, 5, 9)
        for second, expected in ((2, False), (3, False), (4, True), (5, True), (7, True)):
            calls = [("a", 0, 4), ("a", 2, second)]
            self.assertIs(fits([message], calls), expected)
            self.assertIs(fits([message], calls[::-1]), expected)

    def test_several_in_one_tick(self):
        message = Message("a", 2, 1, 5, 9)
        calls = [("a", 0, 5), ("a", 2, 5), ("a", 4, 5)]
        for order in itertools.permutations(calls):
            self.assertIs(fits([message], list(order)), True)
        self.assertIs(fits([message], calls + [("a", 5, 5)]), False)
        self.assertIs(fits([message], calls + [("a", -2, 5)]), False)

    def test_not_only_neighbours_of_the_list(self):
        self.assertIs(fits([A, B], [("a", 0, 0), ("b", 0, 0), ("a", 10, 10), ("a", 4, 4)]), False)
        self.assertIs(fits([A, B], [("a", 10, 10), ("b", 0, 0), ("a", 0, 0), ("a", 5, 5)]), True)

    def test_other_messages_do_not_count(self):
        self.assertIs(fits([A, B], [("a", 0, 0), ("b", 1, 1), ("a", 5, 6), ("b", 9, 9)]), True)
        self.assertIs(fits([A, B], [("a", 0, 0), ("b", 1, 2)]), False)

    def test_against_each_pair(self):
        rnd = random.Random(20)
        answers = []
        for _ in range(3000):
            messages = some_messages(rnd, rnd.randint(1, 3))
            calls = some_history(rnd, messages, 5, rnd.choice([0, -20, FAR]))
            if calls and rnd.random() < 0.5:
                at = rnd.randrange(len(calls))
                name, due, queued = calls[at]
                calls[at] = (name, due + rnd.randint(-1, 1), queued + rnd.randint(-1, 1))
            expected = plain.fits(messages, calls)
            answers.append(expected)
            self.assertIs(fits(messages, calls), expected, (messages, calls))
        self.assertGreater(answers.count(True), 1000)
        self.assertGreater(answers.count(False), 500)

    def test_all_small_lists(self):
        messages = [Message("a", 2, 1, 1, 9), Message("b", 1, 1, 0, 9)]
        every = [(name, due, queued) for name in "ab" for due in range(3) for queued in range(4)]
        for count in range(4):
            for calls in itertools.product(every, repeat=count):
                self.assertIs(fits(messages, list(calls)), plain.fits(messages, calls))

    def test_two_thousand_calls(self):
        messages = [Message(name, 5, 1, 200, 9) for name in "abcdefgh"]
        calls = [(name, 5 * k, 5 * k + 7) for name in "abcdefgh" for k in range(250)]
        random.Random(1).shuffle(calls)
        self.assertIs(fits(messages, calls), True)
        self.assertIs(fits(messages, calls + [("c", 1250, 1251)]), False)
        self.assertIs(fits(messages, calls + [("c", 1250, 1252)]), True)


class Played(unittest.TestCase):
    """[21], [22]: frames played for a history and a pause."""

    def test_no_calls(self):
        for pause in (None, (0, 1), (-5, 200)):
            self.assertEqual(played([A, B], [], pause), [])

    def test_arguments_by_name(self):
        self.assertEqual(played(pause=None, calls=[("a", 0, 1)], ranking=[A]), [("a", 0, 1, 3)])
        self.assertEqual(played([A], calls=[("a", 0, 1)], pause=(1, 2)), [("a", 0, 3, 5)])

    def test_the_best_ranked_begins(self):
        calls = [("b", 0, 0), ("a", 0, 0)]
        self.assertEqual(played([A, B], calls, None), [("a", 0, 0, 2), ("b", 0, 2, 5)])
        self.assertEqual(played([B, A], calls, None), [("b", 0, 0, 3), ("a", 0, 3, 5)])

    def test_a_frame_is_not_interrupted(self):
        self.assertEqual(played([A, B], [("b", 0, 0), ("a", 1, 1)], None), [("b", 0, 0, 3), ("a", 1, 3, 5)])

    def test_queued_when_a_frame_ends(self):
        self.assertEqual(played([A, B], [("b", 0, 0), ("b", 8, 8), ("a", 3, 3)], None),
                         [("b", 0, 0, 3), ("a", 3, 3, 5), ("b", 8, 8, 11)])
        calls = [("c", 0, 0), ("b", 1, 1), ("a", 3, 3)]
        c = Message("c", 9, 3, 0, 9)
        self.assertEqual(played([A, B, c], calls, None), [("c", 0, 0, 3), ("a", 3, 3, 5), ("b", 1, 5, 8)])

    def test_the_earliest_due_first(self):
        message = Message("a", 2, 1, 5, 9)
        calls = [("a", 4, 5), ("a", 0, 5), ("a", 2, 5)]
        self.assertEqual(played([message], calls, None), [("a", 0, 5, 6), ("a", 2, 6, 7), ("a", 4, 7, 8)])

    def test_queued_late(self):
        self.assertEqual(played([A], [("a", 0, 1), ("a", 5, 5)], None), [("a", 0, 1, 3), ("a", 5, 5, 7)])

    def test_pause_ahead_of_all(self):
        calls = [("a", 0, 0)]
        for pause, begin in (((-9, 5), 0), ((-9, 9), 0), ((-9, 10), 1), ((-9, 200), 191), ((-1, 1), 0), ((-1, 2), 1)):
            self.assertEqual(played([A], calls, pause), [("a", 0, begin, begin + 2)], pause)

    def test_pause_at_the_time_of_a_call(self):
        self.assertEqual(played([A], [("a", 0, 0)], (0, 1)), [("a", 0, 1, 3)])
        self.assertEqual(played([A], [("a", 0, 0)], (1, 1)), [("a", 0, 0, 2)])

    def test_pause_while_a_frame_is_under_way(self):
        calls = [("b", 0, 0), ("a", 1, 1)]
        for time in (1, 2, 3):
            self.assertEqual(played([A, B], calls, (time, 4)), [("b", 0, 0, 3), ("a", 1, 7, 9)])
        self.assertEqual(played([A, B], calls, (4, 4)), [("b", 0, 0, 3), ("a", 1, 3, 5)])

    def test_pause_between_frames(self):
        calls = [("a", 0, 0), ("a", 9, 9)]
        for pause, begin in (((2, 7), 9), ((2, 8), 10), ((8, 1), 9), ((8, 2), 10), ((9, 3), 12), ((10, 3), 9)):
            self.assertEqual(played([A], calls, pause), [("a", 0, 0, 2), ("a", 9, begin, begin + 2)], pause)

    def test_pause_behind_all(self):
        self.assertEqual(played([A], [("a", 0, 0)], (2, 5)), [("a", 0, 0, 2)])
        self.assertEqual(played([A], [("a", 0, 0)], (FAR, 5)), [("a", 0, 0, 2)])

    def test_the_pause_is_once(self):
        calls = [("a", 0, 0), ("a", 5, 5), ("a", 10, 10)]
        self.assertEqual(played([A], calls, (0, 1)), [("a", 0, 1, 3), ("a", 5, 5, 7), ("a", 10, 10, 12)])

    def test_the_better_one_queued_in_the_pause(self):
        self.assertEqual(played([A, B], [("b", 0, 0), ("a", 2, 3)], (0, 3)), [("a", 2, 3, 5), ("b", 0, 5, 8)])
        self.assertEqual(played([A, B], [("b", 0, 0), ("a", 4, 4)], (0, 3)), [("b", 0, 3, 6), ("a", 4, 6, 8)])

    def test_times_far_apart(self):
        calls = [("a", FAR, FAR), ("b", -FAR, -FAR), ("a", -FAR, -FAR), ("b", 0, 0)]
        self.assertEqual(played([A, B], calls, (5, 7)), [
            ("a", -FAR, -FAR, -FAR + 2), ("b", -FAR, -FAR + 2, -FAR + 5), ("b", 0, 0, 3), ("a", FAR, FAR, FAR + 2)])
        self.assertEqual(played([A], [("a", FAR, FAR)], (-FAR, 200)), [("a", FAR, FAR, FAR + 2)])
        self.assertEqual(played([A], [("a", -FAR, -FAR)], (FAR, 200)), [("a", -FAR, -FAR, -FAR + 2)])

    def test_against_each_tick(self):
        rnd = random.Random(22)
        late = 0
        for _ in range(3000):
            messages = some_messages(rnd, rnd.randint(1, 4))
            calls = some_history(rnd, messages, rnd.choice([1, 3, 6]), rnd.choice([0, -30, 10 ** 11]))
            start = min([call[2] for call in calls], default=0)
            pause = rnd.choice([None, (start + rnd.randint(-8, 20), rnd.randint(1, 12))])
            self.assertIs(plain.fits(messages, calls), True)
            expected = plain.played(messages, calls, pause)
            late += len(calls) > 5
            self.assertEqual(played(messages, calls, pause), expected, (messages, calls, pause))
        self.assertGreater(late, 500)

    def test_all_small_histories_and_pauses(self):
        messages = [Message("a", 2, 1, 1, 9), Message("b", 3, 2, 0, 9)]
        every = [(name, due, queued) for name in "ab" for due in range(-1, 3) for queued in (due, due + 1)]
        pauses = [None] + [(time, length) for time in range(-2, 5) for length in (1, 3)]
        count = 0
        for size in range(4):
            for calls in itertools.combinations(every, size):
                if not plain.fits(messages, calls):
                    with self.assertRaises(InvalidCalls):
                        played(messages, list(calls), None)
                    continue
                for pause in pauses:
                    self.assertEqual(played(messages, list(calls), pause), plain.played(messages, calls, pause))
                    count += 1
        self.assertGreater(count, 1000)

    def test_no_history(self):
        for calls in ([("a", 0, 2)], [("a", 0, -1)], [("a", 0, 0), ("a", 4, 4)], [("a", 0, 1), ("a", 5, 5), ("a", 0, 1)],
                      [("b", 0, 0), ("b", 0, 0)]):
            for pause in (None, (0, 1)):
                self.assertIs(fits([A, B], calls), False)
                with self.assertRaises(InvalidCalls) as caught:
                    played([A, B], calls, pause)
                self.assertIs(caught.exception.value, calls)

    def test_two_thousand_calls(self):
        messages = [Message(name, 5, 1, 200, 9) for name in "abcdefgh"]
        calls = [(name, 10 ** 9 * k, 10 ** 9 * k + 7) for name in "abcdefgh" for k in range(250)]
        frames = played(messages, calls, (10 ** 9, 200))
        expected = [(name, 10 ** 9 * k, 10 ** 9 * k + begin, 10 ** 9 * k + begin + 1)
                    for k in range(250) for begin, name in enumerate("abcdefgh", 200 if k == 1 else 7)]
        self.assertEqual(frames, expected)


if __name__ == "__main__":
    unittest.main()
