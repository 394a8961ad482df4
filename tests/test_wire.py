import random
import unittest

from tests import plain
from tests.test_wires import some_messages
from wireranks.errors import InvalidName, InvalidNumber, InvalidTime
from wireranks.messages import Message
from wireranks.wires import Wire, played

A = Message("a", 5, 2, 1, 9)
B = Message("b", 8, 3, 0, 9)
LATE = Message("a", 2, 1, 5, 9)


def seen(wire):
    return (wire.now, wire.waiting, wire.under_way)


class Looks(unittest.TestCase):
    """[24]: the properties."""

    def test_at_first(self):
        self.assertEqual(seen(Wire([A, B])), (0, [], None))
        self.assertEqual(seen(Wire(ranking=[B])), (0, [], None))

    def test_waiting_in_the_order_of_the_ranking(self):
        for ranking, expected in (([A, B], [("a", 0, 0), ("b", 0, 0)]), ([B, A], [("b", 0, 0), ("a", 0, 0)])):
            wire = Wire(ranking)
            wire.call("b", 0)
            wire.call("a", 0)
            self.assertEqual(wire.waiting, expected)
            self.assertEqual(wire.under_way, None)

    def test_waiting_the_earliest_due_first(self):
        wire = Wire([LATE])
        for due in (-1, -5, -3):
            wire.call("a", due)
        self.assertEqual(wire.waiting, [("a", -5, 0), ("a", -3, 0), ("a", -1, 0)])
        self.assertEqual(wire.wait(2), [("a", -5, 0, 1), ("a", -3, 1, 2)])
        self.assertEqual(wire.waiting, [("a", -1, 0)])

    def test_under_way_until_the_end(self):
        wire = Wire([B])
        wire.call("b", 0)
        self.assertEqual(seen(wire), (0, [("b", 0, 0)], None))
        self.assertEqual(wire.wait(1), [("b", 0, 0, 3)])
        self.assertEqual(seen(wire), (1, [], ("b", 0, 0, 3)))
        self.assertEqual(wire.wait(1), [])
        self.assertEqual(seen(wire), (2, [], ("b", 0, 0, 3)))
        self.assertEqual(wire.wait(1), [])
        self.assertEqual(seen(wire), (3, [], None))

    def test_under_way_is_the_last_that_began(self):
        wire = Wire([A, B])
        wire.call("b", 0)
        wire.call("a", 0)
        self.assertEqual(wire.wait(4), [("a", 0, 0, 2), ("b", 0, 2, 5)])
        self.assertEqual(wire.under_way, ("b", 0, 2, 5))

    def test_looking_changes_nothing(self):
        wire = Wire([A, B])
        wire.call("b", 0)
        wire.wait(1)
        wire.call("a", 0)
        before = seen(wire)
        for _ in range(3):
            self.assertEqual(seen(wire), before)
        wire.waiting.clear()
        wire.waiting.append(("b", 9, 9))
        self.assertEqual(seen(wire), before)
        self.assertIsNot(wire.waiting, wire.waiting)

    def test_the_ranking_is_taken_over(self):
        ranking = [A, B]
        wire, same = Wire(ranking), Wire([A, B])
        ranking.reverse()
        ranking.pop()
        wire.call("b", 0)
        wire.call("a", 0)
        same.call("b", 0)
        same.call("a", 0)
        self.assertEqual(wire.wait(9), [("a", 0, 0, 2), ("b", 0, 2, 5)])
        same.wait(9)
        self.assertTrue(wire == same)

    def test_what_wait_returned_is_the_users(self):
        wire = Wire([B])
        wire.call("b", 0)
        frames = wire.wait(1)
        frames.clear()
        self.assertEqual(wire.under_way, ("b", 0, 0, 3))
        self.assertEqual(wire.wait(0), [])


class Calls(unittest.TestCase):
    """[24]: call(name, due)."""

    def assert_no_history(self, wire, name, due):
        before = seen(wire)
        with self.assertRaises(InvalidTime) as caught:
            wire.call(name, due)
        self.assertIs(type(caught.exception), InvalidTime)
        self.assertIs(caught.exception.value, due)
        self.assertEqual(seen(wire), before)

    def test_returns_none(self):
        wire = Wire([A])
        self.assertIsNone(wire.call("a", 0))
        self.assertEqual(wire.waiting, [("a", 0, 0)])
        wire.wait(5)
        self.assertIsNone(wire.call(due=5, name="a"))
        self.assertEqual(wire.waiting, [("a", 5, 5)])

    def test_due_from_jitter_ago_to_now(self):
        for jitter in (0, 1, 5, 200):
            message = Message("a", 5, 2, jitter, 9)
            for waited in (0, 3, 10000):
                for late, right in ((-1, False), (0, True), (jitter, True), (jitter + 1, False)):
                    wire = Wire([message])
                    wire.wait(waited)
                    if right:
                        wire.call("a", waited - late)
                        self.assertEqual(wire.waiting, [("a", waited - late, waited)])
                    else:
                        self.assert_no_history(wire, "a", waited - late)

    def test_gap(self):
        for apart, right in ((0, False), (1, False), (4, False), (5, True), (6, True)):
            wire = Wire([A])
            wire.call("a", 0)
            wire.wait(apart)
            if right:
                self.assertIsNone(wire.call("a", apart))
            else:
                self.assert_no_history(wire, "a", apart)

    def test_gap_from_due_to_due(self):
        wire = Wire([A])
        wire.call("a", -1)
        wire.wait(4)
        self.assert_no_history(wire, "a", 3)
        self.assertIsNone(wire.call("a", 4))

    def test_calls_whose_frames_have_ended_count(self):
        wire = Wire([A])
        wire.call("a", 0)
        wire.wait(4)
        self.assertEqual(seen(wire), (4, [], None))
        self.assert_no_history(wire, "a", 4)
        wire.wait(1)
        self.assertIsNone(wire.call("a", 5))

    def test_the_later_due_first_in_one_tick(self):
        wire = Wire([LATE])
        for due in (0, -4, -2):
            self.assertIsNone(wire.call("a", due))
        self.assertEqual(wire.waiting, [("a", -4, 0), ("a", -2, 0), ("a", 0, 0)])
        for due in (0, -1, -2, -3, -4, -5):
            self.assert_no_history(wire, "a", due)

    def test_the_later_due_first_but_not_in_one_tick(self):
        wire = Wire([LATE, B])
        wire.stop(9)
        wire.call("a", 0)
        wire.wait(1)
        self.assert_no_history(wire, "a", -2)
        self.assert_no_history(wire, "a", -4)
        wire.wait(1)
        self.assert_no_history(wire, "a", -2)
        self.assertIsNone(wire.call("a", 2))

    def test_between_calls_of_the_tick_and_before(self):
        wire = Wire([LATE])
        wire.stop(50)
        wire.call("a", 0)
        wire.wait(5)
        self.assertIsNone(wire.call("a", 5))
        self.assert_no_history(wire, "a", 4)
        self.assert_no_history(wire, "a", 1)
        self.assert_no_history(wire, "a", 0)
        self.assertIsNone(wire.call("a", 3))
        self.assertEqual(wire.waiting, [("a", 0, 0), ("a", 3, 5), ("a", 5, 5)])

    def test_other_messages_do_not_count(self):
        wire = Wire([A, B])
        self.assertIsNone(wire.call("a", 0))
        self.assertIsNone(wire.call("b", 0))
        self.assert_no_history(wire, "b", 0)

    def test_the_name_is_looked_at_first(self):
        wire = Wire([A])
        for due in (0, None, "a", 7):
            with self.assertRaises(InvalidName) as caught:
                wire.call("b", due)
            self.assertEqual(caught.exception.value, "b")
        self.assertEqual(seen(wire), (0, [], None))

    def test_far_times(self):
        for due in (10 ** 12 - 1, 1 - 10 ** 12, 10 ** 39, -10 ** 39):
            self.assert_no_history(Wire([A]), "a", due)


class Stops(unittest.TestCase):
    """[24]: stop(length)."""

    def test_returns_none(self):
        wire = Wire([A])
        self.assertIsNone(wire.stop(1))
        self.assertIsNone(wire.stop(length=200))

    def test_on_a_free_wire(self):
        for length in (1, 2, 7, 200):
            wire = Wire([A])
            wire.wait(3)
            wire.call("a", 3)
            wire.stop(length)
            self.assertEqual(seen(wire), (3, [("a", 3, 3)], None))
            self.assertEqual(wire.wait(length), [])
            self.assertEqual(wire.wait(1), [("a", 3, 3 + length, 5 + length)])

    def test_begins_when_the_frame_has_ended(self):
        wire = Wire([B, A])
        wire.call("b", 0)
        wire.wait(1)
        wire.stop(4)
        wire.call("a", 1)
        self.assertEqual(wire.wait(20), [("a", 1, 7, 9)])

    def test_longer_before_it_begins(self):
        wire = Wire([B, A])
        wire.call("b", 0)
        wire.wait(1)
        wire.stop(4)
        wire.wait(1)
        wire.stop(1)
        wire.stop(2)
        wire.call("a", 2)
        self.assertEqual(wire.wait(20), [("a", 2, 10, 12)])

    def test_longer_while_it_lasts(self):
        wire = Wire([A])
        wire.stop(4)
        wire.call("a", 0)
        wire.wait(3)
        wire.stop(5)
        self.assertEqual(wire.wait(6), [])
        self.assertEqual(wire.wait(1), [("a", 0, 9, 11)])

    def test_another_one_when_it_has_ended(self):
        wire = Wire([A])
        wire.stop(4)
        wire.call("a", 0)
        wire.wait(4)
        wire.stop(5)
        self.assertEqual(wire.wait(5), [])
        self.assertEqual(wire.wait(1), [("a", 0, 9, 11)])
        wire.wait(3)
        wire.stop(2)
        wire.call("a", 13)
        self.assertEqual(wire.wait(5), [("a", 13, 15, 17)])

    def test_at_the_end_of_a_frame(self):
        wire = Wire([A, B])
        wire.call("a", 0)
        wire.call("b", 0)
        self.assertEqual(wire.wait(2), [("a", 0, 0, 2)])
        wire.stop(1)
        self.assertEqual(wire.wait(2), [("b", 0, 3, 6)])

    def test_a_pause_on_an_idle_wire_passes(self):
        wire = Wire([A])
        wire.stop(3)
        wire.wait(10)
        wire.call("a", 10)
        self.assertEqual(wire.wait(1), [("a", 10, 10, 12)])

    def test_refused(self):
        wire = Wire([A])
        wire.call("a", 0)
        for length in (0, -1, -200, True, False, None, "1", [1], (1,)):
            with self.assertRaises(InvalidNumber) as caught:
                wire.stop(length)
            self.assertIs(caught.exception.value, length)
        self.assertEqual(wire.wait(1), [("a", 0, 0, 2)])


class Waits(unittest.TestCase):
    """[24]: wait(ticks)."""

    def test_no_ticks(self):
        wire = Wire([A])
        wire.call("a", 0)
        self.assertEqual(wire.wait(0), [])
        self.assertEqual(seen(wire), (0, [("a", 0, 0)], None))
        self.assertEqual(wire.wait(ticks=1), [("a", 0, 0, 2)])
        self.assertEqual(wire.wait(0), [])
        self.assertEqual(seen(wire), (1, [], ("a", 0, 0, 2)))

    def test_refused(self):
        wire = Wire([A])
        wire.call("a", 0)
        for ticks in (-1, -10000, True, False, None, "1", [1], (1,)):
            with self.assertRaises(InvalidNumber) as caught:
                wire.wait(ticks)
            self.assertIs(caught.exception.value, ticks)
        self.assertEqual(seen(wire), (0, [("a", 0, 0)], None))

    def test_a_frame_that_begins_in_the_last_tick(self):
        wire = Wire([B, A])
        wire.call("b", 0)
        wire.call("a", 0)
        self.assertEqual(wire.wait(3), [("b", 0, 0, 3)])
        self.assertEqual(seen(wire), (3, [("a", 0, 0)], None))
        self.assertEqual(wire.wait(1), [("a", 0, 3, 5)])

    def test_many_ticks(self):
        wire = Wire([A])
        for k in range(100):
            self.assertEqual(wire.wait(10000), [] if k == 0 else [("a", wire.now - 10000, wire.now - 10000, wire.now - 9998)])
            self.assertEqual(wire.now, 10000 * (k + 1))
            wire.call("a", wire.now)
        wire.wait(10 ** 11)
        self.assertEqual(seen(wire), (10 ** 11 + 10 ** 6, [], None))

    def test_two_thousand_calls(self):
        messages = [Message(name, 1, 1, 200, 9) for name in "abcdefgh"]
        wire = Wire(messages)
        wire.wait(1)
        for due in range(1, -199, -1):
            for message in messages:
                wire.call(message.name, due)
        for due in range(2, 52):
            wire.wait(1)
            for message in messages:
                wire.call(message.name, due)
        self.assertEqual(len(wire.waiting), 2000 - 50)
        frames = wire.wait(10000)
        self.assertEqual(len(frames), 1950)
        self.assertEqual([frame[2] for frame in frames], list(range(51, 2001)))
        self.assertEqual(seen(wire), (10051, [], None))


class Against(unittest.TestCase):
    """[24] against a plain wire and against `played`."""

    def act(self, rnd, wire, other, told):
        act = rnd.random()
        if act < 0.6:
            message = rnd.choice(other.ranking)
            due = other.now - rnd.randint(-1, message.jitter + 1)
            if other.may_call(message.name, due):
                told.append((message.name, due, other.now))
                other.call(message.name, due)
                self.assertIsNone(wire.call(message.name, due))
            else:
                with self.assertRaises(InvalidTime) as caught:
                    wire.call(message.name, due)
                self.assertEqual(caught.exception.value, due)
        elif act < 0.7:
            length = rnd.randint(1, 5)
            other.stop(length)
            self.assertIsNone(wire.stop(length))
        else:
            ticks = rnd.choice([0, 1, 1, 1, 2, 3, 9])
            self.assertEqual(wire.wait(ticks), other.wait(ticks))

    def test_against_each_tick(self):
        rnd = random.Random(24)
        for _ in range(400):
            messages = some_messages(rnd, rnd.randint(1, 4))
            wire, other, told = Wire(messages), plain.Wire(messages), []
            for _ in range(rnd.randint(5, 50)):
                self.act(rnd, wire, other, told)
                self.assertEqual(seen(wire), (other.now, other.waiting, other.under_way))

    def test_at_once_and_tick_by_tick(self):
        rnd = random.Random(25)
        for _ in range(300):
            messages = some_messages(rnd, rnd.randint(1, 4))
            one, other = Wire(messages), Wire(messages)
            for _ in range(10):
                for message in messages:
                    due = one.now - rnd.randint(0, message.jitter)
                    for wire in (one, other):
                        try:
                            wire.call(message.name, due)
                        except InvalidTime:
                            pass
                if rnd.random() < 0.3:
                    one.stop(3)
                    other.stop(1)
                    other.stop(2)
                ticks = rnd.randint(0, 12)
                singly = [frame for _ in range(ticks) for frame in other.wait(1)]
                self.assertEqual(one.wait(ticks), singly)
                self.assertTrue(one == other)

    def test_against_played(self):
        rnd = random.Random(26)
        for _ in range(400):
            messages = some_messages(rnd, rnd.randint(1, 4))
            wire, told, frames = Wire(messages), [], []
            stopped = rnd.choice([None, rnd.randint(0, 30)])
            pause = None
            for tick in range(40):
                for message in messages:
                    due = tick - rnd.randint(0, message.jitter)
                    if rnd.random() < 0.4 and plain.fits(messages, told + [(message.name, due, tick)]):
                        wire.call(message.name, due)
                        told.append((message.name, due, tick))
                if stopped == tick:
                    pause = (tick, rnd.randint(1, 9))
                    wire.stop(pause[1])
                frames += wire.wait(1)
            frames += wire.wait(10000)
            self.assertEqual(frames, played(messages, told, pause))


class Equal(unittest.TestCase):
    """[24]: when two wires are equal."""

    def assert_equal_is(self, expected, one, other):
        for left, right in ((one, other), (other, one)):
            self.assertIs(left == right, expected)
            self.assertIs(left != right, not expected)

    def played_for(self, ranking, *acts):
        wire = Wire(ranking)
        for act, *args in acts:
            getattr(wire, act)(*args)
        return wire

    def test_new_ones(self):
        wire = Wire([A, B])
        self.assert_equal_is(True, wire, wire)
        self.assert_equal_is(True, wire, Wire([Message("a", 5, 2, 1, 9), B]))

    def test_rankings(self):
        for ranking in ([B, A], [A], [B], [plain.changed(A, last=8), B], [A, B, plain.changed(A, name="c")]):
            self.assert_equal_is(False, Wire([A, B]), Wire(ranking))

    def test_times(self):
        self.assert_equal_is(False, Wire([A]), self.played_for([A], ("wait", 1)))
        self.assert_equal_is(True, self.played_for([A], ("wait", 2)),
                             self.played_for([A], ("wait", 1), ("wait", 0), ("wait", 1)))

    def test_waiting(self):
        self.assert_equal_is(False, Wire([A]), self.played_for([A], ("call", "a", 0)))
        self.assert_equal_is(False, self.played_for([A], ("call", "a", -1)), self.played_for([A], ("call", "a", 0)))

    def test_queued_at_other_times(self):
        early = self.played_for([A], ("stop", 9), ("call", "a", 0), ("wait", 1))
        late = self.played_for([A], ("stop", 9), ("wait", 1), ("call", "a", 0))
        self.assert_equal_is(False, early, late)
        early.wait(20)
        late.wait(20)
        self.assertEqual(seen(early), seen(late))
        self.assert_equal_is(False, early, late)

    def test_calls_in_whatever_order(self):
        calls = [("call", "a", -4), ("call", "a", -2), ("call", "a", 0), ("call", "b", 0)]
        wires = [self.played_for([LATE, B], *order, ("wait", waited)) for waited in (0, 1, 20)
                 for order in (calls, calls[::-1], calls[2:] + calls[:2])]
        for at, one in enumerate(wires):
            for to, other in enumerate(wires):
                self.assert_equal_is(at // 3 == to // 3, one, other)

    def test_calls_that_are_over(self):
        self.assert_equal_is(False, self.played_for([A], ("call", "a", 0), ("wait", 20)), self.played_for([A], ("wait", 20)))
        one = self.played_for([A], ("wait", 1), ("call", "a", 0), ("wait", 20))
        other = self.played_for([A], ("wait", 1), ("call", "a", 1), ("wait", 20))
        self.assertEqual(seen(one), seen(other))
        self.assert_equal_is(False, one, other)

    def test_under_way(self):
        one = self.played_for([B], ("call", "b", 0), ("wait", 2))
        other = self.played_for([B], ("stop", 1), ("call", "b", 0), ("wait", 2))
        self.assertEqual((seen(one), seen(other)), ((2, [], ("b", 0, 0, 3)), (2, [], ("b", 0, 1, 4))))
        self.assert_equal_is(False, one, other)
        one.wait(1)
        other.wait(1)
        self.assertEqual((one.under_way, other.under_way), (None, ("b", 0, 1, 4)))
        self.assert_equal_is(False, one, other)
        one.wait(1)
        other.wait(1)
        self.assert_equal_is(True, one, other)

    def test_frames_that_have_not_begun(self):
        one = self.played_for([A], ("call", "a", 0), ("wait", 5))
        other = self.played_for([A], ("stop", 5), ("call", "a", 0), ("wait", 5))
        self.assertEqual((seen(one), seen(other)), ((5, [], None), (5, [("a", 0, 0)], None)))
        self.assert_equal_is(False, one, other)

    def test_ticks_of_pauses_left(self):
        self.assert_equal_is(False, Wire([A]), self.played_for([A], ("stop", 1)))
        self.assert_equal_is(False, self.played_for([A], ("stop", 2)), self.played_for([A], ("stop", 1)))
        self.assert_equal_is(True, self.played_for([A], ("stop", 2)), self.played_for([A], ("stop", 1), ("stop", 1)))
        self.assert_equal_is(True, self.played_for([A], ("stop", 3), ("wait", 1)),
                             self.played_for([A], ("wait", 1), ("stop", 2)))
        self.assert_equal_is(True, self.played_for([A], ("stop", 3), ("wait", 3)), self.played_for([A], ("wait", 3)))
        self.assert_equal_is(True, self.played_for([A], ("stop", 3), ("wait", 9)), self.played_for([A], ("wait", 9)))

    def test_pauses_that_have_not_begun(self):
        one = self.played_for([B], ("call", "b", 0), ("wait", 1), ("stop", 2), ("wait", 1), ("stop", 1))
        other = self.played_for([B], ("call", "b", 0), ("wait", 2), ("stop", 3))
        self.assert_equal_is(True, one, other)
        self.assert_equal_is(False, one, self.played_for([B], ("call", "b", 0), ("wait", 2), ("stop", 2)))

    def test_the_same_again(self):
        one, other = Wire([A]), Wire([A])
        one.call("a", 0)
        self.assert_equal_is(False, one, other)
        other.call("a", 0)
        self.assert_equal_is(True, one, other)
        one.wait(1)
        self.assert_equal_is(False, one, other)
        other.wait(1)
        self.assert_equal_is(True, one, other)

    def test_comparing_changes_nothing(self):
        one, other = self.played_for([A], ("call", "a", 0), ("stop", 2)), Wire([A])
        before = seen(one), seen(other)
        self.assert_equal_is(False, one, other)
        self.assertEqual((seen(one), seen(other)), before)

    def test_wires_are_apart(self):
        one, other = Wire([A]), Wire([A])
        one.call("a", 0)
        one.stop(1)
        one.wait(3)
        self.assertEqual(seen(other), (0, [], None))


if __name__ == "__main__":
    unittest.main()
