"""Values of every kind that the document names, made anew by each call."""

from wireranks import errors
from wireranks.messages import Message
from wireranks.wires import Wire

TABLE = (
    errors.InvalidMessage,
    errors.InvalidMessages,
    errors.InvalidName,
    errors.InvalidCalls,
    errors.InvalidPause,
    errors.InvalidTime,
    errors.InvalidNumber,
)

FORTY_NINES = 10 ** 40 - 1
FORTY_FIGURES = 10 ** 39


def deep_list():
    value = []
    for _ in range(19):
        value = [value]
    return value


def deep_tuple():
    value = ()
    for _ in range(19):
        value = (value,)
    return value


def deep_dict():
    value = {}
    for _ in range(19):
        value = {"a": value}
    return value


def other_values():
    """Values that are neither integers nor strings, or only Booleans."""
    return [
        None,
        True,
        False,
        [],
        [1],
        ["a"],
        [[None, True], {"a": [1]}],
        (),
        (1,),
        ("a",),
        ("a", 5, 2, 1, 9),
        {},
        {1: 1},
        {"a": "a"},
        deep_list(),
        deep_tuple(),
        deep_dict(),
        Message("a", 5, 2, 1, 9),
        [Message("a", 5, 2, 1, 9)],
        Wire([Message("a", 5, 2, 1, 9)]),
        errors.WireRanksError(),
        errors.WireRanksError(1),
        *[error() for error in TABLE],
        *[error(value="a") for error in TABLE],
    ]


def strings():
    return ["", "a", "abcdefgh", "1", "0", "A b~", "a\n", "\n", " ", "a" * 5000, "".join(map(chr, range(32, 127)))]


def integers():
    return [0, 1, -1, 2, 7, FORTY_NINES, -FORTY_NINES, FORTY_FIGURES]


def any_values():
    return other_values() + strings() + integers()
