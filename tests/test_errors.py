import inspect
import unittest

from tests.samples import TABLE, any_values
from wireranks import errors
from wireranks.errors import WireRanksError

NAMES = (
    "InvalidMessage",
    "InvalidMessages",
    "InvalidName",
    "InvalidCalls",
    "InvalidPause",
    "InvalidTime",
    "InvalidNumber",
)


class Base(unittest.TestCase):
    """[5]: WireRanksError."""

    def test_is_a_value_error(self):
        self.assertTrue(issubclass(WireRanksError, ValueError))

    def test_takes_any_value_by_position(self):
        for value in any_values():
            with self.subTest(value=repr(value)[:80]):
                with self.assertRaises(ValueError) as caught:
                    raise WireRanksError(value)
                self.assertIs(type(caught.exception), WireRanksError)

    def test_needs_no_value(self):
        self.assertIsInstance(WireRanksError(), WireRanksError)


class Table(unittest.TestCase):
    """[5]: the seven classes of the table."""

    def test_stand_in_their_module(self):
        for name, error in zip(NAMES, TABLE):
            self.assertIs(getattr(errors, name), error)
            self.assertEqual((error.__name__, error.__module__), (name, "wireranks.errors"))
        self.assertEqual(WireRanksError.__module__, "wireranks.errors")

    def test_are_derived_directly(self):
        for error in TABLE:
            with self.subTest(error.__name__):
                self.assertEqual(error.__bases__, (WireRanksError,))

    def test_are_not_derived_from_each_other(self):
        for error in TABLE:
            for other in TABLE:
                if error is not other:
                    self.assertFalse(issubclass(error, other))
                    self.assertNotIsInstance(error(1), other)

    def test_are_caught_by_the_base(self):
        for error in TABLE:
            for base in (error, WireRanksError, ValueError):
                with self.assertRaises(base) as caught:
                    raise error("x")
                self.assertIs(type(caught.exception), error)

    def test_hold_the_very_value_by_position(self):
        for error in TABLE:
            for value in any_values():
                with self.subTest(error.__name__, value=repr(value)[:80]):
                    self.assertIs(error(value).value, value)

    def test_hold_the_very_value_by_name(self):
        for error in TABLE:
            for value in any_values():
                with self.subTest(error.__name__, value=repr(value)[:80]):
                    self.assertIs(error(value=value).value, value)

    def test_hold_none_without_a_value(self):
        for error in TABLE:
            self.assertIsNone(error().value)
            self.assertIsNone(error(None).value)

    def test_hold_the_value_when_raised(self):
        for error in TABLE:
            value = ["x", {"y": (1, None)}]
            with self.assertRaises(error) as caught:
                raise error(value)
            self.assertIs(caught.exception.value, value)
            self.assertEqual(value, ["x", {"y": (1, None)}])

    def test_show_a_later_change_of_the_value(self):
        for error in TABLE:
            value = [1]
            raised = error(value)
            value.append(2)
            self.assertEqual(raised.value, [1, 2])

    def test_have_the_arguments_of_the_interface(self):
        for error in TABLE:
            self.assertEqual(str(inspect.signature(error)), "(value=None)")
            self.assertIn("__init__", vars(error))

    def test_hold_values_of_their_own(self):
        for error in TABLE:
            first, second = error([1]), error([2])
            self.assertEqual((first.value, second.value, error().value), ([1], [2], None))


if __name__ == "__main__":
    unittest.main()
