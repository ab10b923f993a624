"""Checks of values that many modules make."""

from openmarks.errors import InvalidNumber, InvalidOperation


def is_integer(value):
    """Return whether the value is an integer, which True and False are not."""
    return isinstance(value, int) and not isinstance(value, bool)


def is_index(value, many):
    """Return whether the value is one of the integers from 0 to many - 1."""
    return type(value) is int and 0 <= value < many


def check_index(value, many):
    """Raise InvalidNumber if the value is none of the integers from 0 to many - 1."""
    if not is_index(value, many):
        raise InvalidNumber(value)


def is_ascending(values):
    """Return whether each of the values, which can be compared, is less than the next one."""
    return all([values[k] < values[k + 1] for k in range(len(values) - 1)])


def check_plain(plain):
    """Raise InvalidOperation if the value does not tell the kind of closings."""
    if not isinstance(plain, bool):
        raise InvalidOperation("plain is neither True nor False")
