"""Documents that are kept as a whole, and folded documents."""

from openmarks.base.checks import check_index, is_index
from openmarks.base.labels import MAX_LABELS, MAX_WORD, closing_tag, is_label, opening_tag
from openmarks.base.streams import MAX_NODES, Trail, is_opening
from openmarks.errors import (
    BadTag, InvalidDocument, InvalidLabels, InvalidOperation, InvalidWord, ParseError, TooMany)

MAX_PARTS = 400
MAX_POSITIONS = 5000


class Document:
    """A document, which never changes.

    It keeps its tags, the label and the parent of each node, how many nodes there
    are in the tree below and with each node, and how many are above each node.
    """

    MOST_NODES = 5000

    def __init__(self, *tags):
        labels = labels_opened(tags)
        trail = Trail(labels, False)
        trail.take(tags)
        if not trail.is_whole():
            raise BadTag(len(tags))
        self._tags = tags
        self._labels = tuple(sorted(labels))
        self._names = tuple([tag[1:] for tag in trail.opened])
        self._parents = tuple(trail.parents)
        self._sizes = sizes_of(trail.parents)
        self._heights = heights_of(trail.parents)

    @classmethod
    def of(cls, tags):
        """Return the document with these tags, as Document does for its arguments."""
        if not isinstance(tags, tuple):
            raise BadTag(0)
        return cls(*tags)

    @classmethod
    def read(cls, text):
        """Return the document with this text."""
        if not isinstance(text, str):
            raise ParseError("not the text of a document")
        tags = tags_in_text(text)
        try:
            document = cls(*tags)
        except BadTag:
            raise ParseError("not the text of one tree with few labels and nodes")
        # Blanks and parentheses were read loosely; there is just one text for a document.
        if str(document) != text:
            raise ParseError("not written like the text of a document")
        return document

    @staticmethod
    def chain(word):
        """Return the document of nodes below one another, the last of which has this path."""
        if not isinstance(word, tuple) or not 1 <= len(word) <= MAX_WORD:
            raise InvalidWord("not a tuple of 1 to 5000 labels")
        if not all([isinstance(label, str) for label in word]):
            raise InvalidWord("an element is not a label")
        labels = sorted(set(word))
        if len(labels) > MAX_LABELS or not all([is_label(label) for label in labels]):
            raise InvalidWord("not at most four different labels")
        tags = [opening_tag(label) for label in word] + [closing_tag(label, False) for label in word[::-1]]
        return Document(*tags)

    @property
    def tags(self):
        """The tags with named closings."""
        return self._tags

    @property
    def plain_tags(self):
        """The tags with plain closings."""
        return tuple([tag if is_opening(tag) else "-" for tag in self._tags])

    @property
    def labels(self):
        """The labels of the nodes, ascending."""
        return self._labels

    @property
    def depth(self):
        """The greatest number of nodes within one another."""
        return max(self._heights) + 1

    def __getitem__(self, node):
        check_index(node, len(self._names))
        labels = []
        while node is not None:
            labels.append(self._names[node])
            node = self._parents[node]
        return tuple(labels[::-1])

    def __iter__(self):
        raise TypeError("a document cannot be iterated over")

    def __len__(self):
        return len(self._names)

    def __str__(self):
        return "".join(pieces_of_text(self._tags))

    def __eq__(self, value):
        if not isinstance(value, Document):
            return False
        return self._tags == value._tags

    def __contains__(self, path):
        if not isinstance(path, tuple) or not path:
            return False
        if not all([isinstance(label, str) for label in path]):
            return False
        # Whether the path of each node is a beginning of the path; a parent comes first.
        fits = []
        for node in range(len(self._names)):
            height = self._heights[node]
            fit = height < len(path) and self._names[node] == path[height]
            if height > 0:
                fit = fit and fits[self._parents[node]]
            if fit and height + 1 == len(path):
                return True
            fits.append(fit)
        return False

    def parent(self, node):
        """Return the parent of a node, or None for the root."""
        check_index(node, len(self._names))
        return self._parents[node]

    def children(self, node):
        """Yield the children of a node in order."""
        check_index(node, len(self._names))
        child = node + 1
        while child < node + self._sizes[node]:
            yield child
            child += self._sizes[child]

    def nodes(self):
        """Yield the label and the parent of each node in order."""
        for node in range(len(self._names)):
            yield self._names[node], self._parents[node]

    def subtree(self, node):
        """Return the document whose root is this node."""
        check_index(node, len(self._names))
        tags = self._tags[self._start(node):self._end(node)]
        return Document(*tags)

    def _start(self, node):
        """Return the position of the opening of the node."""
        # All nodes ahead were opened, and all of them that are not above it were closed.
        return 2 * node - self._heights[node]

    def _end(self, node):
        """Return the position behind the closing of the node."""
        return self._start(node) + 2 * self._sizes[node]

    def with_child(self, node, other, *, index=None):
        """Return the document with another one as one more child of the node."""
        check_index(node, len(self._names))
        if not isinstance(other, Document):
            raise InvalidDocument("the child is not a document")
        starts = [self._start(child) for child in self.children(node)]
        starts.append(self._end(node) - 1)
        if index is None:
            index = len(starts) - 1
        check_index(index, len(starts))
        if len(set(self._labels + other._labels)) > MAX_LABELS:
            raise InvalidDocument("more than four labels")
        if len(self._names) + len(other._names) > MAX_NODES:
            raise TooMany(MAX_NODES)
        at = starts[index]
        tags = self._tags[:at] + other._tags + self._tags[at:]
        return Document(*tags)

    def without(self, node):
        """Return the document without this node and everything below it."""
        check_index(node, len(self._names))
        if node == 0:
            raise InvalidOperation("the root cannot be left out")
        tags = self._tags[:self._start(node)] + self._tags[self._end(node):]
        return Document(*tags)

    def relabelled(self, **names):
        """Return the document in which each label that is a keyword is replaced by its value."""
        return self.relabelled_by(names)

    def relabelled_by(self, names):
        """Return the document in which each label that is a key is replaced by its value."""
        if not isinstance(names, dict):
            raise InvalidLabels("not a dict")
        if not all([is_label(name) for name in [*list(names.keys()), *list(names.values())]]):
            raise InvalidLabels("a key or a value is not a label")
        changed = {sign + label: sign + names.get(label, label) for label in self._labels for sign in ("+", "-")}
        tags = [changed[tag] for tag in self._tags]
        return Document(*tags)


def labels_opened(tags):
    """Return the first four labels of nodes that the tags open.

    With these labels, a tag that opens a node with a fifth one cannot stand anywhere.
    """
    labels = []
    known = {}
    for tag in tags:
        if isinstance(tag, str) and tag not in known:
            known[tag] = True
            if tag.startswith("+") and is_label(tag[1:]) and len(labels) < MAX_LABELS:
                labels.append(tag[1:])
    return labels


def heights_of(parents):
    """Return for each node how many nodes are above it."""
    heights = []
    for parent in parents:
        heights.append(0 if parent is None else heights[parent] + 1)
    return heights


def sizes_of(parents):
    """Return for each node how many nodes are in the tree whose root it is."""
    sizes = [1] * len(parents)
    for node in range(len(parents) - 1, 0, -1):
        sizes[parents[node]] += sizes[node]
    return sizes


def pieces_of_text(tags):
    """Return the pieces of the text of a document with these tags."""
    pieces = []
    before = ""
    for tag in tags:
        # A node has parentheses if something stands between its opening and its closing.
        if is_opening(tag):
            if before != "":
                pieces.append("(" if is_opening(before) else " ")
            pieces.append(tag[1:])
        elif not is_opening(before):
            pieces.append(")")
        before = tag
    return pieces


def tags_in_text(text):
    """Return the tags for a text, which may have blanks and parentheses too many."""
    tags = []
    above = []
    # The label of the node that is closed unless children follow.
    last = None
    for word in text.replace("(", " ( ").replace(")", " ) ").split(" "):
        if word == "":
            continue
        if word == "(":
            if last is None:
                raise ParseError("parentheses behind no label")
            above.append(last)
            last = None
            continue
        if last is not None:
            tags.append(closing_tag(last, False))
        if word == ")":
            if not above:
                raise ParseError("more parentheses are closed than opened")
            last = above.pop()
        else:
            tags.append(opening_tag(word))
            last = word
    if last is not None:
        tags.append(closing_tag(last, False))
    return tags


def is_part(value, many):
    """Return whether the value is a part that can stand behind so many other ones."""
    if not isinstance(value, tuple) or len(value) != 2 or not is_label(value[0]):
        return False
    if not isinstance(value[1], tuple) or len(value[1]) > MAX_POSITIONS:
        return False
    return all([is_index(position, many) for position in value[1]])


def is_folded(value):
    """Return whether the value is a folded document."""
    if not isinstance(value, tuple) or not 1 <= len(value) <= MAX_PARTS:
        return False
    return all([is_part(part, many) for many, part in enumerate(value)])


def check_folded(parts):
    """Raise InvalidDocument if the value is not a folded document."""
    if not is_folded(parts):
        raise InvalidDocument("not a folded document")


def check_document(document):
    """Raise InvalidDocument if the value is not a document."""
    if not isinstance(document, Document):
        raise InvalidDocument("not a document")


def folded(document):
    """Return the least folded document."""
    check_document(document)
    numbers = {}
    # For each open node the parts of its children so far, and one list more for the root.
    below = [[]]
    for tag in document.tags:
        if is_opening(tag):
            below.append([])
        else:
            part = (tag[1:], tuple(below.pop()))
            below[-1].append(numbers.setdefault(part, len(numbers)))
    if len(numbers) > MAX_PARTS:
        raise TooMany(MAX_PARTS)
    return tuple(list(numbers))


def folded_size(parts):
    """Return the number of nodes of the tree that a folded document stands for."""
    check_folded(parts)
    return size_of_parts(parts)


def size_of_parts(parts):
    """Return the number of nodes of the tree for the last part."""
    sizes = []
    for _, positions in parts:
        sizes.append(1 + sum([sizes[position] for position in positions]))
    return sizes[-1]


def labels_used(parts):
    """Return all labels in the tree for the last part."""
    used = [False] * len(parts)
    used[-1] = True
    for k in range(len(parts) - 1, -1, -1):
        if used[k]:
            for position in parts[k][1]:
                used[position] = True
    return sorted(set([parts[k][0] for k in range(len(parts)) if used[k]]))


def spelled(parts):
    """Return the document that a folded document stands for."""
    check_folded(parts)
    if len(labels_used(parts)) > MAX_LABELS:
        raise InvalidDocument("more than four labels")
    if size_of_parts(parts) > MAX_NODES:
        raise TooMany(MAX_NODES)
    tags = []
    # What is still to be written, the next last: closing tags, and positions of parts.
    rest = [len(parts) - 1]
    while rest:
        item = rest.pop()
        if isinstance(item, str):
            tags.append(item)
        else:
            label, positions = parts[item]
            tags.append(opening_tag(label))
            rest.append(closing_tag(label, False))
            rest.extend(positions[::-1])
    return Document(*tags)
