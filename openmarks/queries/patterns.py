"""Patterns of paths: which paths fit, their texts, and the queries that tell them."""

from openmarks.base.checks import check_index, is_integer
from openmarks.base.labels import MAX_WORD, check_labels, is_label
from openmarks.errors import (
    InvalidNumber, InvalidOperation, InvalidPattern, InvalidWord, ParseError, TooMany)
from openmarks.queries.automata import states_of
from openmarks.queries.fitting import fits_along, masks_of
from openmarks.queries.queries import least_of

MAX_STEPS = 6
MAX_TIMES = 6
# Longer than the text of any pattern of twenty parts.
MAX_TEXT = 2000
WORDS_BEHIND = {"not": 1, "either": 2, "both": 2, "below": 1, "first": 1, "unbroken": 1, "counted": 3}


class Pattern:
    """Which paths fit; objects are those of the classes below only.

    A pattern keeps its parts, as the module fitting describes them, its text, and
    the labels in it.
    """

    MAX_PARTS = 20
    MAX_STATES = 200

    def __init__(self):
        raise InvalidPattern("a pattern is a path, or made of other patterns")

    @staticmethod
    def read(text):
        """Return the pattern with this text."""
        if not isinstance(text, str) or len(text) > MAX_TEXT:
            raise ParseError("not the text of a pattern")
        try:
            pattern = pattern_in(text)
        except (InvalidPattern, InvalidNumber, TooMany):
            raise ParseError("not a pattern of few parts with right steps and numbers")
        # Blanks and parentheses were not looked at; there is just one text for a pattern.
        if str(pattern) != text:
            raise ParseError("not written like the text of a pattern")
        return pattern

    def __invert__(self):
        return Made(("not",), (self,))

    def __or__(self, other):
        check_pattern(other)
        return Made(("either",), (self, other))

    def __and__(self, other):
        check_pattern(other)
        return Made(("both",), (self, other))

    def below(self):
        """Return the pattern of the paths that have a shorter beginning that fits."""
        return Made(("below",), (self,))

    def first(self):
        """Return the pattern of the paths that fit and have no shorter beginning that does."""
        return Made(("first",), (self,))

    def unbroken(self):
        """Return the pattern of the paths all of whose beginnings fit."""
        return Made(("unbroken",), (self,))

    def counted(self, times, *, rest=0):
        """Return the pattern of the paths for which the number of beginnings that fit leaves the rest."""
        if not is_integer(times) or not 2 <= times <= MAX_TIMES:
            raise InvalidNumber(times)
        check_index(rest, times)
        return Made(("counted", times, rest), (self,))

    def __call__(self, word):
        if not is_any_word(word):
            raise InvalidWord("not a tuple of at most 5000 labels")
        return is_fit(self._parts, word)

    def __contains__(self, value):
        return is_any_word(value) and is_fit(self._parts, value)

    @property
    def alphabet(self):
        """The labels that occur in the pattern, ascending."""
        return self._alphabet

    def __len__(self):
        return len(self._parts)

    def __eq__(self, value):
        if not isinstance(value, Pattern):
            return False
        return self._text == value._text

    def __str__(self):
        return str(self._text)

    def query(self, labels, *, yes="yes", no="no"):
        """Return the least query that gives the colour yes to paths that fit, and no to others."""
        check_labels(labels)
        if not all([label in labels for label in self._alphabet]):
            raise InvalidOperation("a label of the pattern is not among the labels")
        if not is_label(yes) or not is_label(no):
            raise InvalidOperation("yes or no is not a colour")
        roots, rows, fits = states_of(self._parts, labels, Pattern.MAX_STATES)
        return least_of(labels, roots, rows, [yes if fit else no for fit in fits])


class Path(Pattern):
    """The paths that lead along some steps."""

    def __init__(self, *steps):
        if not 1 <= len(steps) <= MAX_STEPS or not all([is_step(step) for step in steps]):
            raise InvalidPattern("not one to six steps")
        self._parts = (("path", masks_of(steps)),)
        self._text = "".join(steps)
        self._alphabet = tuple(sorted(set([step.replace("/", "") for step in steps]) - {"*"}))

    @classmethod
    def of(cls, steps):
        """Return the path with a tuple of steps."""
        if not isinstance(steps, tuple):
            raise InvalidPattern("not a tuple of steps")
        return cls(*steps)


class Made(Pattern):
    """A pattern that is made of one or two others."""

    def __init__(self, part, inner):
        parts = (*[one for pattern in inner for one in pattern._parts], part)
        if len(parts) > Pattern.MAX_PARTS:
            raise TooMany(Pattern.MAX_PARTS)
        words = [str(word) for word in part]
        self._parts = parts
        self._text = " ".join(words + [text_within(pattern._text) for pattern in inner])
        self._alphabet = tuple(sorted(set([label for pattern in inner for label in pattern._alphabet])))


def check_pattern(value):
    """Raise InvalidPattern if the value is not a pattern."""
    if not isinstance(value, Pattern):
        raise InvalidPattern("not a pattern")


def is_step(value):
    """Return whether the value is a step."""
    if not isinstance(value, str):
        return False
    name = value.removeprefix("//") if value.startswith("//") else value.removeprefix("/")
    return value != name and (name == "*" or is_label(name))


def is_any_word(value):
    """Return whether the value is a tuple of at most 5000 labels, whichever."""
    if not isinstance(value, tuple) or len(value) > MAX_WORD:
        return False
    # Only strings can be in a set for sure.
    if not all([isinstance(label, str) for label in value]):
        return False
    return all([is_label(label) for label in sorted(set(value))])


def is_fit(parts, word):
    """Return whether the word fits the pattern with these parts."""
    return word != () and fits_along(parts, word)[-1]


def text_within(text):
    """Return the text of a pattern as it stands in the text of another one."""
    return text if text.startswith("/") else "(" + text + ")"


def steps_in(text):
    """Return the steps in the text of a path, which may have slashes too many."""
    steps = []
    slashes = "/"
    for name in text[1:].split("/"):
        if name == "":
            slashes = "//"
        else:
            steps.append(slashes + name)
            slashes = "/"
    return tuple(steps)


def pattern_in(text):
    """Return the pattern in a text, without a look at its blanks and parentheses.

    Each word is followed by a fixed number of patterns and numbers, so that the words
    can be read from the last one to the first.
    """
    words = text.replace("(", " ").replace(")", " ").split(" ")
    found = []
    for word in words[::-1]:
        if word.startswith("/"):
            found.append(Path.of(steps_in(word)))
        elif len(word) == 1 and "0" <= word <= "9":
            found.append(int(word))
        elif word != "":
            inner = []
            for _ in range(WORDS_BEHIND.get(word, len(found) + 1)):
                if not found:
                    raise ParseError("a word that is not known, or with too little behind it")
                inner.append(found.pop())
            found.append(pattern_with(word, inner))
    if len(found) != 1:
        raise ParseError("not one pattern")
    check_pattern(found[0])
    return found[0]


def pattern_with(word, inner):
    """Return the pattern that a word makes of the numbers and patterns behind it."""
    check_pattern(inner[-1])
    if word != "counted":
        check_pattern(inner[0])
        return Made((word,), tuple(inner))
    return inner[2].counted(inner[0], rest=inner[1])
