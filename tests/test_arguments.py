"""The general rules, over all functions and methods that take what may be refused."""

import copy
import inspect
import unittest

from tests import plain
from tests.samples import FORTY_FIGURES, FORTY_NINES, any_values, integers, other_values, strings
from wireranks import delays, errors, rankings, wires
from wireranks.messages import Message
from wireranks.wires import Wire

A, B, C = Message("a", 5, 2, 0, 5), Message("b", 7, 2, 0, 7), Message("c", 7, 2, 0, 7)


def listed():
    return [A, B, C]


def calls():
    return [("b", 0, 0), ("a", 0, 0), ("a", 5, 5)]


# Of each parameter: its name, its kind, and arguments that fit, made anew by each call.
RANKING = ("ranking", "messages", listed)
MESSAGES = ("messages", "messages", listed)
OTHER = ("other", "other", lambda: [C, A, B])
NAME = ("name", "name", lambda: "b")
NAMES = ("names", "names", lambda: ["c", "a"])
NUMBER = ("pause", "number", lambda: 0)
CALLS = ("calls", "calls", calls)
HISTORY = ("calls", "history", calls)
PAUSE = ("pause", "pause", lambda: (4, 3))

FUNCTIONS = (
    (wires.fits, (MESSAGES, CALLS)),
    (wires.played, (RANKING, HISTORY, PAUSE)),
    (Wire, (RANKING,)),
    (delays.greatest, (RANKING, NAME, NUMBER)),
    (delays.worst, (RANKING, NAME, NUMBER)),
    (delays.keeps, (RANKING, NUMBER)),
    (rankings.ranked, (MESSAGES, NUMBER)),
    (rankings.bears, (MESSAGES,)),
    (rankings.counted, (MESSAGES, NUMBER)),
    (rankings.longest, (MESSAGES, NAME, NUMBER)),
    (rankings.soonest, (MESSAGES, NAME, NUMBER)),
    (rankings.bars, (MESSAGES, NAMES, NUMBER)),
    (rankings.dropped, (MESSAGES, NUMBER)),
    (rankings.places, (MESSAGES, NAME, NUMBER)),
    (rankings.closest, (RANKING, NUMBER)),
    (rankings.way, (RANKING, OTHER, NUMBER)),
)

METHODS = (
    ("call", (("name", "name", lambda: "b"), ("due", "time", lambda: 0))),
    ("stop", (("length", "length", lambda: 3),)),
    ("wait", (("ticks", "number", lambda: 4),)),
)

REFUSED = {
    "messages": errors.InvalidMessages,
    "other": errors.InvalidMessages,
    "name": errors.InvalidName,
    "names": errors.InvalidName,
    "number": errors.InvalidNumber,
    "length": errors.InvalidNumber,
    "calls": errors.InvalidCalls,
    "history": errors.InvalidCalls,
    "pause": errors.InvalidPause,
    "time": errors.InvalidTime,
}


def no_lists_of_messages():
    values = [value for value in any_values() if not (isinstance(value, list) and len(value) == 1
                                                      and isinstance(value[0], Message))]
    return values + [
        [A, A], [A, B, Message("a", 9, 9, 9, 9)], (A, B, C), (A,), [A, "b"], [A, None], [None, A], [[A, B]], [[A], B],
        {"a": A}, [(A,)], ["a", "b", "c"], [Wire([A])], [A, Wire([B])], [A, ("b", 7, 2, 0, 7)], [A, B, C, True],
        [errors.InvalidMessage(A), A],
    ]


def no_names():
    return other_values() + integers() + [name for name in strings() if name != "a"] + [
        ["b"], ("b",), "d", "ab", "B", "b ", " b", "b\n", A, B, [B]]


def no_numbers():
    return other_values() + strings() + [-1, -2, -200, -FORTY_NINES, [0], (0,), "0"]


def no_calls():
    values = [value for value in any_values() if value != []]
    wrong = [(), ("a",), ("a", 0), ("a", 0, 0, 0), ["a", 0, 0], ("d", 0, 0), ("A", 0, 0), (A, 0, 0), (None, 0, 0),
             ("a", True, 1), ("a", 0, False), ("a", "0", 0), ("a", 0, "0"), ("a", None, 0), ("a", 0, None),
             ("a", [0], 0), ("a", 0, (0,)), (["a"], 0, 0), (("a",), 0, 0), "a", "a00", None, 0, A, {"a": (0, 0)},
             ({}, 0, 0), (0, "a", 0), (True, 0, 0)]
    lists = [[call] for call in wrong] + [[("b", 0, 0), call] for call in wrong] + [[call, ("b", 0, 0)] for call in wrong]
    return values + lists + [tuple(calls()), (), ("a", 0, 0), {"a": 0}, [calls()], {("a", 0, 0): 1}]


def no_histories():
    return no_calls() + [[("a", 0, 1)], [("a", 1, 0)], [("a", 0, 0), ("a", 4, 4)], [("b", 0, 0), ("b", 0, 0)]]


def no_pauses():
    values = [value for value in any_values() if value is not None]
    return values + [(0,), (0, 1, 2), (0, 0), (0, -1), (0, -FORTY_NINES), [0, 1], (True, 1), (0, True), (False, 1),
                     (None, 1), (0, None), ("0", 1), (0, "1"), ([0], 1), (0, [1]), ((0, 1),), {0: 1}, (0, (1,)), 1, 0]


def no_lists_of_names():
    values = [value for value in any_values() if value != ["a"]]
    return values + [["d"], ["a", "d"], ["d", "a"], ["a", "a"], ["a", "b", "a"], ("a", "b"), {"a": "b"}, "ab", "a", ["ab"],
                     ["a", None], ["a", True], ["a", 1], ["a", ["b"]], [["a", "b"]], ["a", ("b",)], ["a", {}], [A], [A, B],
                     ["a", B], [("a",)], ["a", ""], ["A"], ["a\n"], ["a", errors.InvalidName("a")]]


def no_other_rankings():
    return no_lists_of_messages() + [
        [A], [A, B], [C, A], [A, B, C, Message("d", 7, 2, 0, 7)], [A, B, Message("d", 7, 2, 0, 7)],
        [A, B, plain.changed(C, gap=8)], [A, B, plain.changed(C, length=1)], [A, B, plain.changed(C, jitter=1)],
        [A, B, plain.changed(C, last=8)], [plain.changed(A, name="b"), plain.changed(B, name="a"), C]]


WRONG = {
    "messages": no_lists_of_messages,
    "other": no_other_rankings,
    "name": no_names,
    "names": no_lists_of_names,
    "number": no_numbers,
    "length": lambda: no_numbers() + [0],
    "calls": no_calls,
    "history": no_histories,
    "pause": no_pauses,
    "time": lambda: other_values() + strings() + [1, -1, 5, FORTY_NINES, -FORTY_NINES],
}

FEW_WRONG = {
    "messages": lambda: [None, [], (A,), [A, A]],
    "other": lambda: [None, [], [A, B]],
    "name": lambda: [None, "d", ["b"]],
    "names": lambda: [None, [], ["d"], "a"],
    "number": lambda: [None, -1, True, "0"],
    "length": lambda: [None, 0, True],
    "calls": lambda: [None, (), [None]],
    "history": lambda: [None, (), [("a", 0, -1)]],
    "pause": lambda: [0, (0, 0), [0, 1]],
    "time": lambda: [None, 1, "0"],
}


def fitting(parameters):
    return [make() for _, _, make in parameters]


def wire():
    made = Wire(listed())
    made.call("a", 0)
    return made


class Case(unittest.TestCase):
    def assert_refused(self, function, parameters, args, at):
        """The argument at this place is the first that does not fit."""
        by_name = dict(zip([name for name, _, _ in parameters], args))
        before = [repr(arg) for arg in args]
        for call in (lambda: function(*args), lambda: function(**by_name)):
            with self.assertRaises(errors.WireRanksError) as caught:
                call()
            self.assertIs(type(caught.exception), REFUSED[parameters[at][1]])
            self.assertIs(caught.exception.value, args[at])
        self.assertEqual([repr(arg) for arg in args], before)

    def assert_all_refused(self, function, parameters):
        for at, (name, kind, _) in enumerate(parameters):
            for value in WRONG[kind]():
                with self.subTest(function=str(function), name=name, value=repr(value)[:100]):
                    args = fitting(parameters)
                    args[at] = value
                    self.assert_refused(function, parameters, args, at)
                    for behind in range(at + 1, len(parameters)):
                        for other in FEW_WRONG[parameters[behind][1]]():
                            args[behind] = other
                            self.assert_refused(function, parameters, args, at)


class Refused(Case):
    """[1], [2], [5], [11], [20], [21]: wrong values at each place, alone and with others behind."""

    def test_functions(self):
        for function, parameters in FUNCTIONS:
            self.assert_all_refused(function, parameters)

    def test_methods(self):
        for name, parameters in METHODS:
            made = wire()
            self.assert_all_refused(getattr(made, name), parameters)
            self.assertTrue(made == wire())

    def test_one_message_is_no_list(self):
        for function, parameters in FUNCTIONS:
            args = fitting(parameters)
            args[0] = A
            self.assert_refused(function, parameters, args, 0)

    def test_refused_before_a_result_is_computed(self):
        # No answer would come for these numbers, but they are not looked at.
        huge = [Message("a", FORTY_NINES, 1, FORTY_NINES, 1), Message("b", FORTY_FIGURES + 1, 7, FORTY_NINES, FORTY_NINES)]
        for function, parameters in FUNCTIONS:
            for at in range(1, len(parameters)):
                args = [huge] + fitting(parameters)[1:]
                if parameters[1][1] == "other":
                    args[1] = huge[::-1]
                if parameters[1][1] == "names":
                    args[1] = ["a"]
                if parameters[1][1] == "history":
                    args[1] = [("a", 0, 0)]
                for value in FEW_WRONG[parameters[at][1]]():
                    self.assert_refused(function, parameters, args[:at] + [value] + args[at + 1:], at)

    def test_names_are_those_of_the_list_in_question(self):
        for function, parameters in FUNCTIONS:
            for at, (_, kind, _) in enumerate(parameters):
                if kind in ("name", "names"):
                    args = fitting(parameters)
                    args[0] = [A]
                    self.assert_refused(function, parameters, args, at)

    def test_calls_are_those_of_the_list_in_question(self):
        for function, parameters in FUNCTIONS[:2]:
            args = fitting(parameters)
            args[0] = [A, C]
            self.assert_refused(function, parameters, args, 1)

    def test_what_fits_is_not_refused(self):
        for function, parameters in FUNCTIONS:
            function(*fitting(parameters))
            function(**dict(zip([name for name, _, _ in parameters], fitting(parameters))))
        for name, parameters in METHODS:
            getattr(wire(), name)(*fitting(parameters))
            getattr(wire(), name)(**dict(zip([name for name, _, _ in parameters], fitting(parameters))))

    def test_numbers_that_fit(self):
        for pause in (0, 1, 200, 300):
            for function, parameters in FUNCTIONS:
                if parameters[-1][1] == "number":
                    function(*fitting(parameters)[:-1], pause)

    def test_pauses_that_fit(self):
        for pause in (None, (0, 1), (-1, 1), (10 ** 12, 200), (-10 ** 12, 200), (FORTY_NINES, FORTY_NINES)):
            wires.played(listed(), calls(), pause)

    def test_errors_hold_arguments_that_change(self):
        messages = [A, A]
        with self.assertRaises(errors.InvalidMessages) as caught:
            rankings.ranked(messages, 0)
        messages.pop()
        self.assertEqual(caught.exception.value, [A])


class Arguments(Case):
    """[2]: arguments are not changed, and not looked at afterwards."""

    def test_functions_change_no_argument(self):
        for function, parameters in FUNCTIONS:
            args = fitting(parameters)
            before = copy.deepcopy(args)
            inner = [list(arg) if isinstance(arg, list) else arg for arg in args]
            function(*args)
            self.assertEqual(args, before)
            for arg, kept in zip(args, inner):
                if isinstance(arg, list):
                    self.assertTrue(all(one is other for one, other in zip(arg, kept)))

    def test_lists_in_results_are_new(self):
        for function, parameters in FUNCTIONS:
            if function is Wire:
                continue
            args = fitting(parameters)
            given = [id(one) for one in lists_in(args)]
            told, again = function(*args), function(*args)
            held = lists_in(told) + lists_in(again)
            self.assertEqual(len({id(one) for one in held}), len(held), function)
            self.assertFalse([one for one in held if id(one) in given], function)

    def test_lists_in_results_are_the_users(self):
        for function, parameters in FUNCTIONS:
            if function is Wire:
                continue
            args = fitting(parameters)
            told = function(*args)
            expected = copy.deepcopy(told)
            for one in lists_in(told):
                one.clear()
            self.assertEqual(args, fitting(parameters))
            self.assertEqual(function(*args), expected)

    def test_lots_are_new_lists(self):
        messages = [Message("x", 3, 2, 0, 2), Message("y", 9, 2, 0, 9)]
        told = rankings.ranked(messages, 0)
        self.assertEqual(told, ("lot", [messages[0]], [messages[1]]))
        self.assertEqual(len({id(one) for one in lists_in(told) + [messages]}), 3)
        for one in lists_in(told):
            one.clear()
        self.assertEqual(len(messages), 2)
        for pause in (0, 100):
            gone = rankings.dropped(messages, pause)
            self.assertIsNot(gone, messages)
            gone.clear()
            self.assertEqual(len(messages), 2)

    def test_steps_of_a_way_are_lists_of_their_own(self):
        ranking, other = [A, B, C], [A, B, C]
        told = rankings.way(ranking, other, 0)
        self.assertEqual(told, [[A, B, C]])
        self.assertIsNot(told[0], ranking)
        self.assertIsNot(told[0], other)
        told = rankings.way([B, A, C], [C, A, B], 0)
        told[0].clear()
        self.assertEqual(told[1:], [[A, B, C], [A, C, B], [C, A, B]])

    def test_frames_and_calls_are_tuples(self):
        for one in wires.played(listed(), calls(), None) + delays.worst(listed(), "b", 0)[1]:
            self.assertIs(type(one), tuple)


class Alike(Case):
    """[2]: what is asked twice is answered alike, whatever was asked between."""

    def test_asked_twice(self):
        answers = {}
        for _ in range(2):
            for turn in (FUNCTIONS, FUNCTIONS[::-1]):
                for function, parameters in turn:
                    told = function(*fitting(parameters))
                    self.assertTrue(answers.setdefault(function, told) == told, function)
                    with self.assertRaises(errors.WireRanksError):
                        function(None, *fitting(parameters)[1:])

    def test_asked_with_equal_messages(self):
        twins = [copy.deepcopy(message) for message in listed()]
        for function, parameters in FUNCTIONS:
            args = fitting(parameters)
            self.assertTrue(function(twins, *args[1:]) == function(*args))

    def test_whether_is_true_or_false(self):
        for function in (wires.fits, delays.keeps, rankings.bars):
            for name, parameters in FUNCTIONS:
                if name is function:
                    self.assertIs(type(function(*fitting(parameters))), bool)


class Interface(unittest.TestCase):
    """The interface: names, arguments, and where they are defined."""

    def test_functions(self):
        for function, parameters in FUNCTIONS:
            names = [name for name, _, _ in parameters]
            self.assertEqual(str(inspect.signature(function)), "(" + ", ".join(names) + ")")
        told = {(function.__module__, function.__name__) for function, _ in FUNCTIONS}
        expected = {("wireranks.wires", name) for name in ("fits", "played", "Wire")}
        expected |= {("wireranks.delays", name) for name in ("greatest", "worst", "keeps")}
        expected |= {("wireranks.rankings", name) for name in (
            "ranked", "bears", "counted", "longest", "soonest", "bars", "dropped", "places", "closest", "way")}
        self.assertEqual(told, expected)

    def test_methods(self):
        for name, parameters in METHODS:
            names = ["self"] + [name for name, _, _ in parameters]
            self.assertEqual(str(inspect.signature(vars(Wire)[name])), "(" + ", ".join(names) + ")")
        for name in ("now", "waiting", "under_way"):
            self.assertIsInstance(vars(Wire)[name], property)
        self.assertIn("__eq__", vars(Wire))

    def test_equal_only_to_objects_of_the_same_class(self):
        made = Wire([Message("a", 5, 2, 1, 9)])
        for value in any_values() + [[Message("a", 5, 2, 1, 9)], Wire([A, B])]:
            if isinstance(value, Wire) and value.now == 0:
                continue
            self.assertIs(made == value, False)
            self.assertIs(value == made, False)
            self.assertIs(made != value, True)
        self.assertIs(made == Wire([A, B]), False)

        class Other:
            pass

        alike = Other()
        vars(alike).update(vars(made))
        self.assertIs(made == alike, False)


def lists_in(value):
    """All lists in a value, itself among them."""
    found = [value] if isinstance(value, list) else []
    if isinstance(value, (list, tuple)):
        for one in value:
            found.extend(lists_in(one))
    return found


if __name__ == "__main__":
    unittest.main()
