"""The colours of the nodes of documents, all at once or while the tags are read."""

from openmarks.base.checks import check_index, check_plain
from openmarks.base.streams import Trail
from openmarks.documents.documents import Document
from openmarks.errors import InvalidDocument, InvalidOperation, UnknownName
from openmarks.queries.queries import check_query, columns_of


def is_document_with(value, labels):
    """Return whether the value is a document with only these labels."""
    return isinstance(value, Document) and all([label in labels for label in value.labels])


def check_labels_of(document, labels):
    """Raise InvalidDocument if the value is not a document with only these labels."""
    if not is_document_with(document, labels):
        raise InvalidDocument("not a document with labels of the query")


def states_in(query, document):
    """Return the states of all nodes; the arguments were checked."""
    labels, roots, rows, _ = query
    columns = columns_of(labels)
    states = []
    for label, parent in document.nodes():
        row = roots if parent is None else rows[states[parent]]
        states.append(row[columns[label]])
    return states


def colours_of(query, document):
    """Return the colours of all nodes, by node numbers."""
    check_query(query)
    check_labels_of(document, query[0])
    colours = query[3]
    return tuple([colours[state] for state in states_in(query, document)])


def nodes_of(query, document, colour):
    """Yield the numbers of the nodes that have the colour, ascending."""
    found = colours_of(query, document)
    if colour not in query[3]:
        raise UnknownName(colour)
    for node, one in enumerate(found):
        if one == colour:
            yield node


def tally(query, document):
    """Return a dict from each colour that some node has to the number of these nodes."""
    many = {}
    for colour in colours_of(query, document):
        many[colour] = many.get(colour, 0) + 1
    return {colour: many[colour] for colour in sorted(many)}


class Reader:
    """Reads the tags of one document and keeps the states of its nodes.

    The trail has the tags and the nodes, states the state of each node that was opened.
    """

    def __init__(self, query, *, plain=False):
        check_query(query)
        check_plain(plain)
        self._query = query
        self._plain = plain
        self._trail = Trail(query[0], plain)
        self._columns = columns_of(self._trail.closings)
        self._states = []

    def take(self, *tags):
        """Read the tags, and return the colours of the nodes that they open."""
        return self.take_all(tags)

    def take_all(self, tags):
        """Read a tuple of tags, and return the colours of the nodes that they open."""
        _, roots, rows, colours = self._query
        trail, states, columns = self._trail, self._states, self._columns
        before = len(states)
        trail.take(tags)
        for node in range(before, len(trail.opened)):
            parent = trail.parents[node]
            row = roots if parent is None else rows[states[parent]]
            states.append(row[columns[trail.opened[node]]])
        return tuple([colours[state] for state in states[before:]])

    def __call__(self, tag):
        told = self.take_all((tag,))
        return told[0] if told else None

    def back(self, many=1):
        """Take back the last tags, and return how many are left."""
        left = self._trail.back(many)
        del self._states[len(self._trail.opened):]
        return left

    def branch(self):
        """Return an equal reader that goes its own way."""
        other = Reader(self._query, plain=self._plain)
        other._trail = self._trail.branch()
        other._states = list(self._states)
        return other

    def during(self, call):
        """Return what the call returns for this reader, which is then as it was before."""
        trail, states = self._trail.branch(), list(self._states)
        try:
            return call(self)
        finally:
            self._trail = trail
            self._states = states

    @property
    def asked(self):
        """The query that was passed."""
        return self._query

    @property
    def is_plain(self):
        """Whether closings are plain."""
        return self._plain

    @property
    def tags(self):
        """The tags that were read."""
        return tuple(self._trail.seen)

    @property
    def told(self):
        """The colours of all nodes so far."""
        return tuple([self._query[3][state] for state in self._states])

    @property
    def open_word(self):
        """The path of the current node, or () if no node is open."""
        return self._trail.path()

    @property
    def state(self):
        """The state of the current node, or None if no node is open."""
        node = self._trail.current
        return None if node is None else self._states[node]

    def document(self):
        """Return the document that was read."""
        if not self._trail.is_whole():
            raise InvalidOperation("the root is not closed")
        tags = self._trail.named_tags()
        return Document(*tags)

    def __getitem__(self, node):
        check_index(node, len(self._states))
        return self._query[3][self._states[node]]

    def __iter__(self):
        raise TypeError("a reader cannot be iterated over")

    def __contains__(self, value):
        return value in self._trail.tags_next()

    def __len__(self):
        return len(self._trail.seen)

    def __bool__(self):
        return bool(self._trail.is_whole())

    def __str__(self):
        many = len(self._trail.opened)
        return f"reader of {many} nodes, {many - len(self._trail.closed)} open"

    def __eq__(self, value):
        if not isinstance(value, Reader):
            return False
        if self._query != value._query or self._plain != value._plain:
            return False
        return self._trail.seen == value._trail.seen
