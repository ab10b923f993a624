"""Checks of values that stand beside labels, words and streams."""

from openmarks.errors import InvalidOperation


def is_integer(value):
    """Return whether the value is an integer, which True and False are not."""
    return isinstance(value, int) and not isinstance(value, bool)


def check_plain(plain):
    """Raise InvalidOperation if the value does not tell the kind of closings."""
    if not isinstance(plain, bool):
        raise InvalidOperation("plain is neither True nor False")
