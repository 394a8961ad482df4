import itertools
import random
import unittest

from tests import plain
from wireranks.delays import greatest, keeps, worst
from wireranks.messages import Message
from wireranks.wires import fits, played


def some_ranking(rnd, better, worse):
    """A ranking of few small messages, and the one of them that is looked at."""
    ranking = [Message(name, rnd.randint(1, 5), rnd.randint(1, 3), rnd.choice([0, 0, 1, 2, 3]), rnd.randint(1, 20))
               for name in "ab"[:better] + "m" + "xy"[:worse]]
    return ranking, ranking[better]


def delays_of(name, frames):
    return [end - due for frame, due, _, end in frames if frame == name]


def histories(messages, dues, most):
    """All histories with dues from a range and at most so many calls of each message."""
    lines = []
    for message in messages:
        every = [(message.name, due, queued) for due in dues for queued in range(due, due + message.jitter + 1)]
        lines.append([list(calls) for count in range(most + 1) for calls in itertools.combinations(every, count)
                      if plain.fits([message], calls)])
    for chosen in itertools.product(*lines):
        yield [call for calls in chosen for call in calls]


class Case(unittest.TestCase):
    def assert_reached(self, ranking, name, pause):
        """`worst` returns the greatest delay and a history that reaches it and does not exceed it."""
        told = worst(ranking, name, pause)
        self.assertIs(type(told), tuple)
        delay, calls = told
        self.assertEqual(delay, greatest(ranking, name, pause))
        self.assertIs(type(calls), list)
        self.assertTrue(fits(ranking, calls))
        frames = played(ranking, calls, (0, pause) if pause else None)
        self.assertEqual(max(delays_of(name, frames)), delay)
        return calls, frames


class Greatest(Case):
    """[30], [31]: the greatest delay and calls that reach it."""

    def assert_greatest(self, expected, ranking, name, pause):
        self.assertEqual(greatest(ranking, name, pause), expected)
        if expected is None:
            self.assertIsNone(worst(ranking, name, pause))
        else:
            self.assert_reached(ranking, name, pause)

    def test_arguments_by_name(self):
        message = Message("m", 5, 2, 1, 9)
        self.assertEqual(greatest(pause=3, name="m", ranking=[message]), 6)
        self.assertEqual(worst(pause=3, ranking=[message], name="m")[0], 6)

    def test_alone(self):
        for gap, length, jitter, pause in itertools.product((3, 5, 100), (1, 2, 3), (0, 1, 200), (0, 1, 200)):
            if (gap, length) == (3, 3):
                continue
            message = Message("m", gap, length, jitter, 9)
            self.assert_greatest(length + jitter + pause, [message], "m", pause)

    def test_behind_a_worse_frame(self):
        message = Message("m", 50, 2, 1, 9)
        for length, expected in ((1, 3), (2, 4), (3, 5), (100, 102)):
            worse = Message("x", 1, length, 7, 9)
            self.assert_greatest(expected, [message, worse], "m", 0)
            self.assert_greatest(expected + 200, [message, worse], "m", 200)

    def test_behind_the_longest_worse_frame_only(self):
        message = Message("m", 50, 2, 0, 9)
        lengths = (3, 7, 5)
        for order in itertools.permutations(lengths):
            worse = [Message(name, 1, length, 0, 9) for name, length in zip("xyz", order)]
            self.assert_greatest(8, [message] + worse, "m", 0)

    def test_the_last_has_no_worse_frame(self):
        self.assert_greatest(5, [Message("a", 9, 3, 0, 9), Message("m", 9, 2, 0, 9)], "m", 0)

    def test_better_frames_called_again(self):
        ranking = [Message("a", 3, 2, 0, 9), Message("m", 20, 2, 0, 9)]
        self.assert_greatest(4, ranking, "m", 0)
        ranking = [Message("a", 3, 2, 0, 9), Message("b", 20, 1, 0, 9), Message("m", 20, 2, 0, 9)]
        self.assert_greatest(1 + 1 + 3 * 2 + 2, ranking, "m", 1)

    def test_a_better_call_in_the_tick_of_the_beginning(self):
        # At 2 the better one is called again; begun before, the frame would have ended at 3.
        self.assert_greatest(8, [Message("a", 4, 2, 0, 9), Message("b", 4, 1, 0, 9), Message("m", 80, 1, 0, 9)], "m", 1)
        self.assert_greatest(4, [Message("a", 4, 2, 0, 9), Message("b", 4, 1, 0, 9), Message("m", 80, 1, 0, 9)], "m", 0)

    def test_jitter_of_the_better_ones(self):
        for jitter, expected in ((0, 4), (1, 4), (2, 6), (3, 6), (4, 8), (5, 8), (6, 10), (10, 14)):
            ranking = [Message("a", 4, 2, jitter, 9), Message("m", 100, 2, 0, 9)]
            self.assert_greatest(expected, ranking, "m", 0)

    def test_jitter_longer_than_the_gap(self):
        # Three calls are queued in one tick, the first of which was due longest ago.
        message = Message("m", 5, 3, 10, 9)
        self.assert_greatest(13, [message], "m", 0)
        frames = [Message("a", 2, 1, 5, 9), Message("m", 4, 1, 9, 9)]
        self.assert_greatest(16, frames, "m", 0)

    def test_a_later_frame_of_the_row(self):
        # Known for frames on a wire: here the second frame of the row is later than the first.
        ranking = [Message("a", 25, 10, 0, 99), Message("b", 35, 10, 0, 99), Message("m", 35, 10, 0, 99)]
        self.assertEqual(delays_of("m", plain.played(ranking, [("a", 0, 0), ("b", 0, 0), ("m", 0, 0)], None)), [30])
        self.assert_greatest(35, ranking, "m", 0)
        ranking = [Message("a", 5, 2, 0, 99), Message("b", 9, 3, 0, 99), Message("m", 4, 1, 0, 99)]
        _, frames = self.assert_reached(ranking, "m", 0)
        self.assertEqual(delays_of("m", frames), [8, 5, 7, 6, 8, 5, 9])

    def test_later_frames_occur_at_all(self):
        rnd = random.Random(5)
        places = set()
        for _ in range(3000):
            ranking, _ = some_ranking(rnd, rnd.randint(0, 2), rnd.randint(0, 2))
            pause = rnd.choice([0, 1, 5])
            if greatest(ranking, "m", pause) is not None:
                _, frames = self.assert_reached(ranking, "m", pause)
                delays = delays_of("m", frames)
                places.add(delays.index(max(delays)))
        self.assertGreater(len(places), 2)

    def test_frames_that_need_all_ticks(self):
        p, q = Message("p", 2, 1, 0, 9), Message("q", 2, 1, 0, 9)
        self.assert_greatest(2, [p, q], "q", 0)
        self.assert_greatest(8, [p, q], "q", 3)
        self.assert_greatest(5, [Message("m", 5, 5, 0, 9)], "m", 0)
        self.assert_greatest(205, [Message("m", 5, 5, 0, 9)], "m", 200)
        for lengths, expected in (((50, 50), 107), ((1, 99), 107), ((99, 1), 800), ((95, 5), 202)):
            ranking = [Message(name, 100, length, 0, 9) for name, length in zip("am", lengths)]
            self.assert_greatest(100, ranking, "m", 0)
            self.assert_greatest(expected, ranking, "m", 7)

    def test_frames_that_need_more_than_all_ticks(self):
        ranking = [Message("p", 2, 1, 0, 9), Message("q", 2, 1, 0, 9), Message("m", 100, 1, 0, 9)]
        self.assert_greatest(None, ranking, "m", 0)
        self.assert_greatest(None, ranking, "m", 200)
        self.assert_greatest(2, ranking, "q", 0)
        self.assert_greatest(1, ranking, "p", 0)
        self.assert_greatest(None, [Message("m", 5, 6, 0, 9)], "m", 0)
        self.assert_greatest(None, [Message("a", 99, 98, 0, 9), Message("m", 98, 1, 0, 9)], "m", 0)
        self.assert_greatest(99, [Message("a", 99, 98, 0, 9), Message("m", 99, 1, 0, 9)], "m", 0)

    def test_worse_ones_may_need_what_they_will(self):
        ranking = [Message("m", 2, 1, 0, 9), Message("x", 1, 5, 0, 9), Message("y", 1, 5, 200, 9)]
        self.assert_greatest(5, ranking, "m", 0)

    def test_grows_with_the_pause(self):
        rnd = random.Random(7)
        for _ in range(100):
            ranking, _ = some_ranking(rnd, rnd.randint(0, 2), rnd.randint(0, 2))
            delays = [greatest(ranking, "m", pause) for pause in range(12)]
            if delays[0] is None:
                self.assertEqual(delays, [None] * 12)
            else:
                self.assertTrue(all(one < other for one, other in zip(delays, delays[1:])), delays)

    def test_order_of_the_better_and_the_worse_ones_tells_nothing(self):
        rnd = random.Random(8)
        for _ in range(200):
            ranking, message = some_ranking(rnd, 2, 2)
            other = ranking[:2][::-1] + [message] + ranking[3:][::-1]
            self.assertEqual(greatest(ranking, "m", 2), greatest(other, "m", 2))

    def test_last_times_tell_nothing(self):
        rnd = random.Random(9)
        for _ in range(200):
            ranking, _ = some_ranking(rnd, 2, 2)
            other = [plain.changed(message, last=1) for message in ranking]
            self.assertEqual(greatest(ranking, "m", 2), greatest(other, "m", 2))


class Exact(Case):
    """[30]: no history has a greater delay."""

    def test_against_an_adversary(self):
        rnd = random.Random(30)
        exact = just_all = long_jitters = 0
        while exact < 500:
            ranking, message = some_ranking(rnd, rnd.choice([0, 1, 1, 2]), rnd.choice([0, 1, 2]))
            at = ranking.index(message)
            pause = rnd.choice([0, 0, 1, 2, 3])
            told = greatest(ranking, "m", pause)
            if plain.too_much(ranking[:at + 1]):
                self.assertIsNone(told)
                self.assertIsNone(worst(ranking, "m", pause))
                continue
            found = plain.Adversary(ranking[:at], message, ranking[at + 1:]).search(pause, 4000)
            if found is None:
                continue
            self.assertEqual(told, found, ([vars(one) for one in ranking], pause))
            self.assert_reached(ranking, "m", pause)
            exact += 1
            just_all += plain.too_much(ranking[:at] + [plain.changed(message, length=message.length + 1)])
            long_jitters += message.jitter > message.gap
        self.assertGreater(just_all, 50)
        self.assertGreater(long_jitters, 20)

    def test_more_than_all_ticks_have_no_greatest(self):
        ranking = [Message("a", 2, 1, 0, 9), Message("m", 3, 2, 0, 9)]
        delays = []
        for count in (10, 100, 1000):
            calls = [("a", 2 * k, 2 * k) for k in range(3 * count)] + [("m", 3 * k, 3 * k) for k in range(count)]
            delays.append(max(delays_of("m", played(ranking, calls, None))))
        self.assertTrue(delays[0] < delays[1] < delays[2], delays)
        self.assertGreater(delays[2], 1000)
        self.assertIsNone(greatest(ranking, "m", 0))

    def test_against_all_small_histories(self):
        for ranking in (
            [Message("a", 2, 1, 1, 9), Message("b", 3, 2, 0, 9)],
            [Message("b", 3, 1, 2, 9), Message("a", 2, 1, 0, 9)],
            [Message("a", 3, 1, 0, 9), Message("b", 3, 1, 0, 9), Message("c", 3, 1, 1, 9)],
        ):
            reached = {message.name: 0 for message in ranking}
            for pause in (0, 2):
                for calls in histories(ranking, range(3), 2):
                    for told in [None] + [(time, pause) for time in range(-1, 5) if pause]:
                        for name, due, _, end in played(ranking, calls, told):
                            reached[name] = max(reached[name], end - due)
                for name in reached:
                    bound = greatest(ranking, name, pause)
                    self.assertTrue(bound is None or reached[name] <= bound, (name, pause))

    def test_against_random_histories(self):
        rnd = random.Random(31)
        for _ in range(150):
            ranking, _ = some_ranking(rnd, rnd.randint(0, 2), rnd.randint(0, 2))
            pause = rnd.choice([0, 1, 4])
            bounds = {message.name: greatest(ranking, message.name, pause) for message in ranking}
            for _ in range(20):
                calls = []
                for message in ranking:
                    due = rnd.randint(-3, 3)
                    queued = due
                    for _ in range(rnd.randint(0, 12)):
                        queued = rnd.choice([max(due, queued), due + message.jitter])
                        calls.append((message.name, due, queued))
                        due += message.gap + rnd.choice([0, 0, 0, 0, 1])
                        queued = max(queued, due)
                        if queued > due + message.jitter:
                            break
                told = (rnd.randint(-4, 20), rnd.randint(1, pause)) if pause else None
                for name, due, _, end in played(ranking, calls, told):
                    if bounds[name] is not None:
                        self.assertLessEqual(end - due, bounds[name])


class Worst(Case):
    """[31]: the calls returned."""

    def test_longer_lists_than_the_limit(self):
        ranking = [Message("a", 2, 1, 200, 9), Message("b", 4, 1, 200, 9), Message("c", 8, 1, 200, 9),
                   Message("d", 16, 1, 200, 9), Message("e", 32, 1, 200, 9), Message("f", 64, 1, 200, 9),
                   Message("m", 64, 1, 200, 9)]
        calls, _ = self.assert_reached(ranking, "m", 200)
        self.assertGreater(len(calls), 10000)

    def test_each_message_of_a_ranking(self):
        rnd = random.Random(33)
        for _ in range(300):
            ranking, _ = some_ranking(rnd, rnd.randint(0, 2), rnd.randint(0, 2))
            for message in ranking:
                pause = rnd.choice([0, 1, 7])
                if greatest(ranking, message.name, pause) is None:
                    self.assertIsNone(worst(ranking, message.name, pause))
                else:
                    self.assert_reached(ranking, message.name, pause)

    def test_new_lists(self):
        ranking = [Message("a", 5, 2, 1, 9), Message("m", 7, 2, 1, 9)]
        one, other = worst(ranking, "m", 3), worst(ranking, "m", 3)
        self.assertEqual(one, other)
        self.assertIsNot(one[1], other[1])
        one[1].clear()
        self.assertEqual(worst(ranking, "m", 3), other)


class Keeps(unittest.TestCase):
    """[32]: whether each message keeps its last time."""

    def test_at_the_last_time(self):
        for pause in (0, 3, 200):
            ranking = [Message("a", 5, 2, 1, 9), Message("b", 7, 2, 0, 9)]
            delays = [greatest(ranking, name, pause) for name in "ab"]
            for first, second in itertools.product((-1, 0, 1), repeat=2):
                lasts = [delays[0] + first, delays[1] + second]
                told = [plain.changed(message, last=last) for message, last in zip(ranking, lasts)]
                self.assertIs(keeps(told, pause), first >= 0 and second >= 0)
                self.assertIs(keeps(pause=pause, ranking=told), first >= 0 and second >= 0)

    def test_no_greatest_delay(self):
        ranking = [Message("a", 2, 1, 0, 1000), Message("b", 3, 2, 0, 1000)]
        self.assertIs(keeps(ranking, 0), False)
        self.assertIs(keeps(ranking[:1], 0), True)
        self.assertIs(keeps(ranking[1:], 0), True)

    def test_last_times_that_are_hard_to_exceed(self):
        # The delays of a row that never ends grow by a tick in many: the last time is exceeded late, but it is.
        ranking = [Message("a", 2, 1, 0, 1000), Message("b", 99, 49, 0, 1000), Message("c", 99, 1, 0, 1000)]
        self.assertIs(keeps(ranking, 0), False)
        self.assertIs(keeps([plain.changed(message, last=10 ** 6) for message in ranking], 0), False)

    def test_against_the_greatest_delays(self):
        rnd = random.Random(32)
        answers = []
        for _ in range(3000):
            ranking, _ = some_ranking(rnd, rnd.randint(0, 2), rnd.randint(0, 2))
            pause = rnd.choice([0, 0, 1, 5])
            delays = [greatest(ranking, message.name, pause) for message in ranking]
            if rnd.random() < 0.8 and None not in delays:
                ranking = [plain.changed(message, last=max(1, delay + rnd.choice([0, 0, 0, 0, -1, 1])))
                           for message, delay in zip(ranking, delays)]
            expected = all(delay is not None and delay <= message.last for delay, message in zip(delays, ranking))
            answers.append(expected)
            self.assertIs(keeps(ranking, pause), expected)
        self.assertGreater(answers.count(True), 300)
        self.assertGreater(answers.count(False), 300)


if __name__ == "__main__":
    unittest.main()
