"""The errors of the package.

Errors of wrong forms are derived from MarkError and take a message. The others
take one value and keep it as their attribute.
"""


class MarkError(ValueError):
    """A value does not have the form that is required."""


class InvalidLabels(MarkError):
    """The value is not an ascending tuple of one to four labels."""


class InvalidWord(MarkError):
    """The value is not a word of the labels."""


class InvalidDocument(MarkError):
    """The value is not a document, or not one that is allowed here."""


class InvalidQuery(MarkError):
    """The value is not a query."""


class InvalidPattern(MarkError):
    """The value is not a pattern."""


class InvalidMachine(MarkError):
    """The value is not a machine."""


class InvalidChain(MarkError):
    """The value is not a chain of the query and the closings."""


class InvalidOperation(MarkError):
    """The operation is not possible with these values."""


class InvalidEdit(MarkError):
    """The value is not an edit that can be made."""


class ParseError(MarkError):
    """The value is not the text of what is read."""


class InvalidNumber(IndexError):
    """The value is not a number that is allowed here."""

    def __init__(self, value):
        self.value = value


class UnknownName(KeyError):
    """Nothing has this name."""

    def __init__(self, name):
        self.name = name


class BadTag(LookupError):
    """The element at this position of a stream cannot stand there."""

    def __init__(self, position):
        self.position = position


class TooMany(OverflowError):
    """There would be more than this limit allows."""

    def __init__(self, limit):
        self.limit = limit


class Unlimited(ArithmeticError):
    """No number of bookmarks is enough, as this paper shows."""

    def __init__(self, paper):
        self.paper = paper


class NothingToUndo(RuntimeError):
    """So many steps cannot be taken back or made again."""

    def __init__(self, many):
        self.many = many
