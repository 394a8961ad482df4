import copy
import inspect
import unittest

from tests.samples import FORTY_FIGURES, FORTY_NINES, any_values, integers, other_values, strings
from wireranks.errors import InvalidMessage, WireRanksError
from wireranks.messages import Message

FIELDS = ("name", "gap", "length", "jitter", "last")
NUMBERS = ("gap", "length", "jitter", "last")
LEAST = {"gap": 1, "length": 1, "jitter": 0, "last": 1}
FITTING = ("ab", 5, 2, 1, 9)
FITTING_NAMES = ("a", "z", "az", "message", "abcdefgh", "stuvwxyz", "aaaaaaaa")


def with_one(field, value):
    """The fitting arguments with another value at one place."""
    args = list(FITTING)
    args[FIELDS.index(field)] = value
    return args


def fields_of(message):
    return (message.name, message.gap, message.length, message.jitter, message.last)


class Case(unittest.TestCase):
    def assert_fits(self, args):
        message = Message(*args)
        self.assertEqual(fields_of(message), tuple(args))
        self.assertIs(type(message.name), str)
        for number in fields_of(message)[1:]:
            self.assertIs(type(number), int)

    def assert_refused(self, args):
        calls = (lambda: Message(*args), lambda: Message(**dict(zip(FIELDS, args))))
        for call in calls:
            with self.assertRaises(WireRanksError) as caught:
                call()
            self.assertIs(type(caught.exception), InvalidMessage)
            value = caught.exception.value
            self.assertIs(type(value), tuple)
            self.assertEqual(len(value), 5)
            for got, handed in zip(value, args):
                self.assertIs(got, handed)


class Fields(Case):
    """[1], [10] and the interface: arguments and properties."""

    def test_arguments_by_position(self):
        message = Message("ab", 5, 2, 1, 9)
        self.assertEqual(message.name, "ab")
        self.assertEqual(message.gap, 5)
        self.assertEqual(message.length, 2)
        self.assertEqual(message.jitter, 1)
        self.assertEqual(message.last, 9)

    def test_arguments_by_name(self):
        message = Message(last=9, jitter=1, length=2, gap=5, name="ab")
        self.assertEqual(fields_of(message), FITTING)
        self.assertEqual(fields_of(Message("ab", 5, last=9, jitter=1, length=2)), FITTING)

    def test_arguments_have_no_defaults(self):
        self.assertEqual(str(inspect.signature(Message)), "(name, gap, length, jitter, last)")

    def test_properties(self):
        for field in FIELDS:
            self.assertIsInstance(vars(Message)[field], property)
        self.assertIn("__eq__", vars(Message))
        self.assertEqual(Message.__module__, "wireranks.messages")

    def test_properties_give_the_same_again(self):
        message = Message(*FITTING)
        self.assertEqual(fields_of(message), fields_of(message))

    def test_messages_are_independent(self):
        first, second = Message("a", 1, 2, 3, 4), Message("b", 5, 6, 7, 8)
        self.assertEqual(fields_of(first), ("a", 1, 2, 3, 4))
        self.assertEqual(fields_of(second), ("b", 5, 6, 7, 8))

    def test_a_refused_message_changes_nothing(self):
        message = Message(*FITTING)
        self.assert_refused(["ab", 0, 2, 1, 9])
        self.assertEqual(fields_of(message), FITTING)


class Names(Case):
    """[2], [10]: what a name is."""

    def test_names(self):
        for name in FITTING_NAMES:
            with self.subTest(name):
                self.assert_fits(with_one("name", name))

    def test_each_sign(self):
        for sign in "abcdefghijklmnopqrstuvwxyz":
            self.assert_fits(with_one("name", sign))
            self.assert_fits(with_one("name", "aaa" + sign + "zzz"))

    def test_each_count_of_signs(self):
        for count in range(1, 9):
            self.assert_fits(with_one("name", "q" * count))

    def test_counts_of_signs_beyond(self):
        for count in (0, 9, 10, 16, 1000):
            self.assert_refused(with_one("name", "q" * count))

    def test_other_signs(self):
        others = [chr(k) for k in range(32, 127) if not "a" <= chr(k) <= "z"] + ["\n"]
        self.assertEqual(len(others), 70)
        for sign in others:
            for name in (sign, "a" + sign, sign + "a", "aaa" + sign + "aaa", "aaaaaaa" + sign):
                with self.subTest(name=name):
                    self.assert_refused(with_one("name", name))

    def test_letters_of_other_alphabets(self):
        for name in ("\u00e4", "\u00df", "a\u0430", "\u00aa", "\u0101"):
            self.assert_refused(with_one("name", name))

    def test_no_string(self):
        for name in other_values() + integers():
            with self.subTest(name=repr(name)[:80]):
                self.assert_refused(with_one("name", name))


class Numbers(Case):
    """[2], [3], [10]: what gap, length, jitter and last are."""

    def test_the_least(self):
        for field in NUMBERS:
            self.assert_fits(with_one(field, LEAST[field]))
            self.assert_refused(with_one(field, LEAST[field] - 1))
            self.assert_refused(with_one(field, LEAST[field] - 2))
        self.assert_fits(["ab", 1, 1, 0, 1])

    def test_zero_and_one_below(self):
        self.assert_fits(with_one("jitter", 0))
        for field in ("gap", "length", "last"):
            self.assert_refused(with_one(field, 0))
        for field in NUMBERS:
            self.assert_fits(with_one(field, 1))
            self.assert_refused(with_one(field, -1))

    def test_forty_figures(self):
        for field in NUMBERS:
            for number in (FORTY_FIGURES, FORTY_NINES):
                self.assertEqual(len(str(number)), 40)
                self.assert_fits(with_one(field, number))
                self.assert_refused(with_one(field, -number))
        self.assert_fits(["ab"] + [FORTY_NINES] * 4)

    def test_neighbours_of_forty_figures_differ(self):
        for field in NUMBERS:
            near, far = Message(*with_one(field, FORTY_NINES)), Message(*with_one(field, FORTY_NINES - 1))
            self.assertFalse(near == far)
            self.assertEqual(getattr(near, field) - getattr(far, field), 1)

    def test_beyond_the_limits_no_error_is_raised(self):
        for field in NUMBERS:
            self.assert_fits(with_one(field, 10 ** 100))

    def test_numbers_need_not_suit_each_other(self):
        self.assert_fits(["ab", 1, 100, 200, 1])
        self.assert_fits(["ab", 100, 1, 0, 1000])

    def test_booleans(self):
        for field in NUMBERS:
            self.assert_refused(with_one(field, True))
            self.assert_refused(with_one(field, False))

    def test_no_number(self):
        for field in NUMBERS:
            for value in other_values() + strings():
                with self.subTest(field, value=repr(value)[:80]):
                    self.assert_refused(with_one(field, value))


class Refused(Case):
    """[2], [10]: InvalidMessage with the very five arguments."""

    def test_others_behind(self):
        for at, field in enumerate(FIELDS):
            for value in any_values():
                args = with_one(field, value)
                for behind in range(at + 1, 5):
                    args[behind] = [behind]
                    self.assert_refused(args)

    def test_two_do_not_fit(self):
        wrong = {"name": "A", "gap": 0, "length": -1, "jitter": -1, "last": "9"}
        for first in FIELDS:
            for second in FIELDS:
                args = with_one(first, wrong[first])
                args[FIELDS.index(second)] = wrong[second]
                self.assert_refused(args)

    def test_none_fits(self):
        for value in any_values():
            self.assert_refused([value] * 5)

    def test_arguments_in_another_order(self):
        self.assert_refused([5, "ab", 2, 1, 9])
        self.assert_refused([5, 2, 1, 9, "ab"])

    def test_arguments_are_not_changed(self):
        for field in FIELDS:
            wrong = ["a", [1, {"b": (2,)}]]
            before = copy.deepcopy(wrong)
            self.assert_refused(with_one(field, wrong))
            self.assertEqual(wrong, before)

    def test_the_field_holds_the_arguments_themselves(self):
        gap = [1]
        with self.assertRaises(InvalidMessage) as caught:
            Message("ab", gap, 2, 1, 9)
        gap.append(2)
        self.assertEqual(caught.exception.value, ("ab", [1, 2], 2, 1, 9))


class Equal(Case):
    """[2], [10]: when two messages are equal."""

    def assert_equal_is(self, expected, one, other):
        for left, right in ((one, other), (other, one)):
            self.assertIs(left == right, expected)
            self.assertIs(left != right, not expected)

    def test_all_five_are(self):
        for args in (FITTING, ("z", 1, 1, 0, 1), ("abcdefgh",) + (FORTY_NINES,) * 4):
            self.assert_equal_is(True, Message(*args), Message(*args))
            message = Message(*args)
            self.assert_equal_is(True, message, message)

    def test_one_is_not(self):
        others = {"name": "ba", "gap": 6, "length": 3, "jitter": 2, "last": 10}
        for field in FIELDS:
            other = Message(*with_one(field, others[field]))
            self.assert_equal_is(False, Message(*FITTING), other)

    def test_numbers_exchanged(self):
        self.assert_equal_is(False, Message("a", 1, 2, 3, 4), Message("a", 2, 1, 3, 4))
        self.assert_equal_is(False, Message("a", 1, 2, 3, 4), Message("a", 1, 2, 4, 3))

    def test_within_other_values(self):
        self.assertEqual([Message(*FITTING)], [Message(*FITTING)])
        self.assertIn(Message(*FITTING), [None, Message(*FITTING)])
        self.assertNotIn(Message(*FITTING), [Message("z", 5, 2, 1, 9)])

    def test_no_other_value_is(self):
        message = Message(*FITTING)
        values = [value for value in any_values() if not isinstance(value, Message)]
        for value in values + [FITTING, list(FITTING), "ab", InvalidMessage(FITTING), InvalidMessage(message)]:
            with self.subTest(value=repr(value)[:80]):
                self.assert_equal_is(False, message, value)

    def test_an_object_that_looks_alike_is_not(self):
        class Alike:
            def __init__(self):
                self.name, self.gap, self.length, self.jitter, self.last = FITTING
                self._name, self._gap, self._length, self._jitter, self._last = FITTING

        self.assert_equal_is(False, Message(*FITTING), Alike())


if __name__ == "__main__":
    unittest.main()
