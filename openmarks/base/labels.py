"""Labels, words of labels, and the tags that open and close their nodes."""

from openmarks.base.checks import check_plain, is_ascending, is_integer
from openmarks.errors import InvalidLabels, InvalidNumber, InvalidWord

MAX_LETTERS = 8
MAX_LABELS = 4
MAX_WORD = 5000
MAX_LONGEST = 8


def is_label(value):
    """Return whether the value is a string of one to eight letters a to z."""
    if not isinstance(value, str) or not 1 <= len(value) <= MAX_LETTERS:
        return False
    return value.isascii() and value.isalpha() and value.islower()


def are_labels(values):
    """Return whether the value is a tuple of labels, in any order and of any length."""
    return isinstance(values, tuple) and all([is_label(value) for value in values])


def is_labels(value):
    """Return whether the value is an ascending tuple of one to four labels."""
    if not are_labels(value) or not 1 <= len(value) <= MAX_LABELS:
        return False
    return is_ascending(value)


def check_labels(labels):
    """Raise InvalidLabels if the value is not labels."""
    if not is_labels(labels):
        raise InvalidLabels("not an ascending tuple of one to four labels")


def make_labels(*labels):
    """Return the labels that consist of the arguments, which may be repeated."""
    return labels_from(labels)


def labels_from(values):
    """Return the labels that consist of the elements of a tuple, which may be repeated."""
    if not are_labels(values):
        raise InvalidLabels("not a tuple of labels")
    # Only labels come here, so that all of them can be compared and be in a set.
    labels = tuple(sorted(set(values)))
    check_labels(labels)
    return labels


def is_word(labels, value):
    """Return whether the value is a word of the labels, of any length."""
    check_labels(labels)
    return isinstance(value, tuple) and all([label in labels for label in value])


def check_word(labels, word):
    """Raise InvalidWord if the value is not a word of the labels that can be passed."""
    if not is_word(labels, word) or len(word) > MAX_WORD:
        raise InvalidWord("not a tuple of at most 5000 of the labels")


def all_words(labels, *, longest):
    """Yield all words of at most so many labels, shorter ones first, then ascending."""
    check_labels(labels)
    if not is_integer(longest) or not 0 <= longest <= MAX_LONGEST:
        raise InvalidNumber(longest)
    words = [()]
    yield ()
    for _ in range(longest):
        # Words in order, each followed by the labels in order, are in order again.
        words = [word + (label,) for word in words for label in labels]
        yield from words


def opening_tag(label):
    """Return the tag that opens a node with this label."""
    return "+" + label


def closing_tag(label, plain):
    """Return the tag that closes a node with this label."""
    return "-" if plain else "-" + label


def tags_down(labels, word):
    """Return the tags that open nodes with the labels of the word, one within the other."""
    check_labels(labels)
    check_word(labels, word)
    return tuple([opening_tag(label) for label in word])


def tags_up(labels, word, *, plain=False):
    """Return the tags that close the nodes of tags_down again, the last one first."""
    check_labels(labels)
    check_word(labels, word)
    check_plain(plain)
    return tuple([closing_tag(label, plain) for label in word[::-1]])
