"""What is a whole number, and what is a name."""

from wireranks.errors import InvalidNumber

MOST_SIGNS = 8


def is_whole(value):
    """Whether the value is an integer of any sign."""
    # For Python a Boolean is an integer, too; for this package it is none.
    return isinstance(value, int) and not isinstance(value, bool)


def is_whole_from(value, least):
    """Whether the value is a whole number that is not below the least one."""
    return is_whole(value) and value >= least


def is_name(value):
    """Whether the value is a string of 1 to 8 signs from a to z."""
    if not isinstance(value, str) or not 1 <= len(value) <= MOST_SIGNS:
        return False
    # The methods of strings would let letters beyond a to z pass.
    return all(["a" <= sign <= "z" for sign in value])


def check_number(value, least):
    """Refuses what is not a whole number of at least the least one."""
    if not is_whole_from(value, least):
        raise InvalidNumber(value)
