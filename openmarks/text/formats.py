"""Texts of words, tags, chains, queries and machines, and listings of colours."""

from openmarks.base.checks import check_plain
from openmarks.base.labels import MAX_WORD, check_labels, check_word, closing_tag, is_word, opening_tag
from openmarks.base.streams import Trail, trail_of
from openmarks.errors import InvalidChain, InvalidMachine, InvalidOperation, InvalidQuery, ParseError
from openmarks.machines.machines import MAX_MARKS, is_machine
from openmarks.queries.colouring import colours_of
from openmarks.queries.queries import check_query, is_query

# No number in a text has more digits.
MAX_DIGITS = 3


class Codec:
    """Writes and reads texts of values with some labels and some kind of closings."""

    KINDS = ("chain", "machine", "query", "tags", "word")

    def __init__(self, labels, *, plain=False):
        check_labels(labels)
        check_plain(plain)
        self._labels = labels
        self._plain = plain

    @classmethod
    def of(cls, query):
        """Return the codec with the labels of a query and named closings."""
        check_query(query)
        return cls(query[0])

    @staticmethod
    def is_kind(value):
        """Return whether the value is a kind of texts."""
        return isinstance(value, str) and value in Codec.KINDS

    @property
    def alphabet(self):
        """The labels."""
        return self._labels

    def __eq__(self, value):
        if not isinstance(value, Codec):
            return False
        return self._labels == value._labels and self._plain == value._plain

    def text(self, kind, thing):
        """Return the text of a value of this kind."""
        check_kind(kind)
        if kind == "word":
            check_word(self._labels, thing)
            return text_of_word(thing)
        if kind == "tags":
            trail_of(self._labels, thing, self._plain)
            return " ".join(thing) if thing else "none"
        if kind == "chain":
            if not is_chain_of_words(self._labels, thing):
                raise InvalidChain("not a tuple of triples of words")
            return text_of_chain(thing)
        if kind == "query":
            if not is_query(thing) or thing[0] != self._labels:
                raise InvalidQuery("not a query with the labels of the codec")
            return text_of_query(thing)
        if not is_machine(thing) or thing[0] != self._labels or thing[1] != self._plain:
            raise InvalidMachine("not a machine with the labels and the closings of the codec")
        return text_of_machine(thing)

    def parse(self, kind, text):
        """Return the value of this kind that has the text."""
        check_kind(kind)
        value = None
        if isinstance(text, str):
            if kind == "word":
                value = word_in(self._labels, text)
            elif kind == "tags":
                value = tags_in(self._labels, self._plain, text)
            elif kind == "chain":
                value = chain_in(self._labels, text)
            elif kind == "query":
                value = query_in(self._labels, text)
            else:
                value = machine_in(self._labels, self._plain, text)
        if value is None:
            raise ParseError("not the text of such a value")
        return value


def check_kind(kind):
    """Raise InvalidOperation if the value is not a kind of texts."""
    if not Codec.is_kind(kind):
        raise InvalidOperation("not a kind of texts")


def text_of_word(word):
    """Return the text of a word."""
    return " ".join(word) if word else "-"


def word_in(labels, text):
    """Return the word with this text, or None."""
    word = () if text == "-" else tuple(text.split(" "))
    return word if is_word(labels, word) and len(word) <= MAX_WORD else None


def tags_in(labels, plain, text):
    """Return the tags with this text, or None."""
    tags = () if text == "none" else tuple(text.split(" "))
    return tags if Trail(labels, plain).go_on(tags) == len(tags) else None


def is_chain_of_words(labels, value):
    """Return whether the value is a tuple of triples of words that can be passed."""
    if not isinstance(value, tuple):
        return False
    if not all([isinstance(link, tuple) and len(link) == 3 for link in value]):
        return False
    return all([is_word(labels, word) and len(word) <= MAX_WORD for link in value for word in link])


def text_of_chain(chain):
    """Return the text of a chain."""
    links = [" / ".join([text_of_word(word) for word in link]) for link in chain]
    return "; ".join(links) if links else "none"


def chain_in(labels, text):
    """Return the chain with this text, or None."""
    if text == "none":
        return ()
    chain = []
    for part in text.split("; "):
        link = tuple([word_in(labels, word) for word in part.split(" / ")])
        if len(link) != 3 or None in link:
            return None
        chain.append(link)
    return tuple(chain)


def number_in(text):
    """Return the number that is written so, or None if it cannot be one of a query or machine."""
    if 1 <= len(text) <= MAX_DIGITS and text.isascii() and text.isdigit():
        return int(text)
    return None


def text_of_query(query):
    """Return the text of a query."""
    labels, roots, rows, colours = query
    lines = ["labels " + " ".join(labels), "roots " + text_of_numbers(roots)]
    for state, row in enumerate(rows):
        lines.append(f"{state} {colours[state]} {text_of_numbers(row)}")
    return "\n".join(lines)


def text_of_numbers(numbers):
    """Return the text of numbers."""
    return " ".join([str(number) for number in numbers])


def numbers_in(words):
    """Return the numbers that are written so, with None for what is none."""
    return tuple([number_in(word) for word in words])


def query_in(labels, text):
    """Return the query with this text, or None."""
    lines = text.split("\n")
    rows = [line.split(" ") for line in lines]
    if len(rows) < 3 or not all([len(row) == len(labels) + 2 for row in rows[2:]]):
        return None
    query = (
        labels,
        numbers_in(rows[1][1:]),
        tuple([numbers_in(row[2:]) for row in rows[2:]]),
        tuple([row[1] for row in rows[2:]]))
    # Where the parts are those of a query, its only text must be this one.
    return query if is_query(query) and text_of_query(query) == text else None


def text_of_machine(machine):
    """Return the text of a machine."""
    labels, plain, marks, opens, closes = machine
    closings = "plain" if plain else "named"
    lines = ["labels " + " ".join(labels), f"{closings} {marks}"]
    for state, row in enumerate(opens):
        for label, (colour, placed, after) in zip(labels, row):
            lines.append(f"{state} {opening_tag(label)} {colour} {placed} {after}")
    for state, row in enumerate(closes):
        for label, entry in zip(labels, row):
            for on, (placed, after) in enumerate(entry):
                lines.append(f"{state} {closing_tag(label, plain)} {on} {placed} {after}")
    return "\n".join(lines)


def machine_in(labels, plain, text):
    """Return the machine with this text, or None."""
    rows = [line.split(" ") for line in text.split("\n")]
    if len(rows) < 3 or len(rows[1]) != 2 or not all([len(row) == 5 for row in rows[2:]]):
        return None
    marks = number_in(rows[1][1])
    if marks is None or marks > MAX_MARKS:
        return None
    sets = 1 << marks
    entries = 1 if plain else len(labels)
    states = (len(rows) - 2) // (len(labels) + entries * sets)
    at = 2
    opens = []
    for _ in range(states):
        lines = rows[at:at + len(labels)]
        opens.append(tuple([(line[2], number_in(line[3]), number_in(line[4])) for line in lines]))
        at += len(labels)
    closes = []
    for _ in range(states):
        row = []
        for _ in range(entries):
            row.append(tuple([numbers_in(line[3:]) for line in rows[at:at + sets]]))
            at += sets
        closes.append(tuple(row))
    machine = (labels, plain, marks, tuple(opens), tuple(closes))
    # Where the parts are those of a machine, its only text must be this one.
    return machine if is_machine(machine) and text_of_machine(machine) == text else None


def colour_listing(query, document):
    """Return a text with a line for each node, with its colour and its path."""
    colours = colours_of(query, document)
    paths = []
    lines = []
    for node, (label, parent) in enumerate(list(document.nodes())):
        paths.append(label if parent is None else paths[parent] + " " + label)
        lines.append(f"{node:>5} {colours[node]:<9}{paths[node]}")
    lines.append(f"{len(document):>5,} nodes")
    return "\n".join(lines)
