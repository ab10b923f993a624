"""Documents that are kept as a whole, and folded documents."""

from openmarks.base.checks import check_index
from openmarks.base.labels import MAX_LABELS, MAX_WORD, closing_tag, is_label, opening_tag
from openmarks.base.streams import MAX_NODES, is_opening
from openmarks.documents.trees import heights_of, nodes_in_text, nodes_of_parts, nodes_opened, sizes_of
from openmarks.errors import (
    BadTag, InvalidDocument, InvalidLabels, InvalidOperation, InvalidWord, ParseError, TooMany)

MAX_PARTS = 400
MAX_POSITIONS = 5000


class Document:
    """A document, which never changes.

    It keeps its tags, and the label and the parent of each node. The depth and the sizes
    of all trees below its nodes are worked out when they are first needed.
    """

    MOST_NODES = 5000

    def __init__(self, *tags):
        self._tags = tags
        labels, self._names, self._parents = nodes_opened(tags)
        self._labels = tuple(labels)
        self._sizes = None
        self._depth = None

    @classmethod
    def of(cls, tags):
        """Return the document with these tags, as Document does for its arguments."""
        if not isinstance(tags, tuple):
            raise BadTag(0)
        return cls(*tags)

    @classmethod
    def read(cls, text):
        """Return the document with this text."""
        if not isinstance(text, str):
            raise ParseError("not the text of a document")
        labels, tags, names, parents = nodes_in_text(text)
        return filled(cls("+a", "-a"), labels, tags, names, parents)

    @staticmethod
    def chain(word):
        """Return the document of nodes below one another, the last of which has this path."""
        if not isinstance(word, tuple) or not 1 <= len(word) <= MAX_WORD:
            raise InvalidWord("not a tuple of 1 to 5000 labels")
        if not all([isinstance(label, str) for label in word]):
            raise InvalidWord("an element is not a label")
        labels = sorted(set(word))
        if len(labels) > MAX_LABELS or not all([is_label(label) for label in labels]):
            raise InvalidWord("not at most four different labels")
        openings = {label: opening_tag(label) for label in labels}
        closings = {label: closing_tag(label, False) for label in labels}
        tags = [openings[label] for label in word] + [closings[label] for label in word[::-1]]
        return filled(Document("+a", "-a"), labels, tags, list(word), [None] + list(range(len(word) - 1)))

    @property
    def tags(self):
        """The tags with named closings."""
        return self._tags

    @property
    def plain_tags(self):
        """The tags with plain closings."""
        return tuple([tag if is_opening(tag) else "-" for tag in self._tags])

    @property
    def labels(self):
        """The labels of the nodes, ascending."""
        return self._labels

    @property
    def depth(self):
        """The greatest number of nodes within one another."""
        if self._depth is None:
            self._depth = max(heights_of(self._parents)) + 1
        return self._depth

    def __getitem__(self, node):
        check_index(node, len(self._names))
        labels = []
        while node is not None:
            labels.append(self._names[node])
            node = self._parents[node]
        return tuple(labels[::-1])

    def __iter__(self):
        raise TypeError("a document cannot be iterated over")

    def __len__(self):
        return len(self._names)

    def __str__(self):
        return "".join(pieces_of_text(self._tags))

    def __eq__(self, value):
        if not isinstance(value, Document):
            return False
        return self._tags == value._tags

    def __contains__(self, path):
        if not isinstance(path, tuple) or not path:
            return False
        if not all([isinstance(label, str) for label in path]):
            return False
        # For each node the length of its path if the given one begins with it, or else -1.
        fits = []
        for name, parent in zip(self._names, self._parents):
            ahead = 0 if parent is None else fits[parent]
            if ahead < 0 or name != path[ahead]:
                fits.append(-1)
            elif ahead + 1 == len(path):
                return True
            else:
                fits.append(ahead + 1)
        return False

    def parent(self, node):
        """Return the parent of a node, or None for the root."""
        check_index(node, len(self._names))
        return self._parents[node]

    def children(self, node):
        """Yield the children of a node in order."""
        check_index(node, len(self._names))
        if self._sizes is None:
            self._sizes = sizes_of(self._parents)
        child = node + 1
        while child < node + self._sizes[node]:
            yield child
            child += self._sizes[child]

    def nodes(self):
        """Yield the label and the parent of each node in order."""
        for node in range(len(self._names)):
            yield self._names[node], self._parents[node]

    def subtree(self, node):
        """Return the document whose root is this node."""
        check_index(node, len(self._names))
        behind = self._behind(node)
        tags = self._tags[self._place(node, node):self._place(node, behind)]
        parents = [None] + [parent - node for parent in self._parents[node + 1:behind]]
        names = self._names[node:behind]
        return filled(Document("+a", "-a"), sorted(set(names)), tags, names, parents)

    def _behind(self, node):
        """Return the number of the first node behind a node and all nodes below it."""
        parents = self._parents
        many = len(parents)
        behind = node + 1
        while behind < many and parents[behind] >= node:
            behind += 1
        return behind

    def _place(self, node, other):
        """Return the number of tags ahead of another node that has the same parent.

        It may also be the place for a node that does not exist, behind all children.
        """
        # All nodes ahead were opened, and all of them that are not above it were closed.
        place = 2 * other
        while self._parents[node] is not None:
            node = self._parents[node]
            place -= 1
        return place

    def with_child(self, node, other, *, index=None):
        """Return the document with another one as one more child of the node."""
        check_index(node, len(self._names))
        if not isinstance(other, Document):
            raise InvalidDocument("the child is not a document")
        at = self._behind(node)
        if index is not None:
            starts = list(self.children(node)) + [at]
            check_index(index, len(starts))
            at = starts[index]
        labels = sorted(set(self._labels + other._labels))
        if len(labels) > MAX_LABELS:
            raise InvalidDocument("more than four labels")
        many = len(other._names)
        if len(self._names) + many > MAX_NODES:
            raise TooMany(MAX_NODES)
        place = self._place(node, at) - 1
        tags = self._tags[:place] + other._tags + self._tags[place:]
        names = self._names[:at] + other._names + self._names[at:]
        parents = self._parents[:at] + [node] + [parent + at for parent in other._parents[1:]]
        parents.extend([parent if parent < at else parent + many for parent in self._parents[at:]])
        return filled(Document("+a", "-a"), labels, tags, names, parents)

    def without(self, node):
        """Return the document without this node and everything below it."""
        check_index(node, len(self._names))
        if node == 0:
            raise InvalidOperation("the root cannot be left out")
        behind = self._behind(node)
        many = behind - node
        tags = self._tags[:self._place(node, node)] + self._tags[self._place(node, behind):]
        names = self._names[:node] + self._names[behind:]
        parents = [parent if parent < node else parent - many for parent in self._parents[behind:]]
        return filled(Document("+a", "-a"), sorted(set(names)), tags, names, self._parents[:node] + parents)

    def relabelled(self, **names):
        """Return the document in which each label that is a keyword is replaced by its value."""
        return self.relabelled_by(names)

    def relabelled_by(self, names):
        """Return the document in which each label that is a key is replaced by its value."""
        if not isinstance(names, dict):
            raise InvalidLabels("not a dict")
        if not all([is_label(name) for name in [*list(names.keys()), *list(names.values())]]):
            raise InvalidLabels("a key or a value is not a label")
        new = {label: names.get(label, label) for label in self._labels}
        changed = {sign + label: sign + new[label] for label in self._labels for sign in ("+", "-")}
        tags = [changed[tag] for tag in self._tags]
        names_now = [new[name] for name in self._names]
        return filled(Document("+a", "-a"), sorted(set(list(new.values()))), tags, names_now, self._parents)


def filled(document, labels, tags, names, parents):
    """Give a new document other labels, tags and nodes, which fit one another, and return it.

    The lists of the nodes are kept, and never changed. So nothing needs to be read again.
    """
    document._labels = tuple(labels)
    document._tags = tuple(tags)
    document._names = names
    document._parents = parents
    return document


def pieces_of_text(tags):
    """Return the pieces of the text of a document with these tags."""
    pieces = []
    before = ""
    for tag in tags:
        # A node has parentheses if something stands between its opening and its closing.
        if is_opening(tag):
            if before != "":
                pieces.append("(" if is_opening(before) else " ")
            pieces.append(tag[1:])
        elif not is_opening(before):
            pieces.append(")")
        before = tag
    return pieces


def is_folded(value):
    """Return whether the value is a folded document."""
    if not isinstance(value, tuple) or not 1 <= len(value) <= MAX_PARTS:
        return False
    labels = {}
    for many, part in enumerate(value):
        if not isinstance(part, tuple) or len(part) != 2:
            return False
        label, positions = part
        if not isinstance(label, str) or not isinstance(positions, tuple) or len(positions) > MAX_POSITIONS:
            return False
        if label not in labels:
            if not is_label(label):
                return False
            labels[label] = True
        for position in positions:
            # Written out here, as a part can have thousands of positions.
            if type(position) is not int or not 0 <= position < many:
                return False
    return True


def check_folded(parts):
    """Raise InvalidDocument if the value is not a folded document."""
    if not is_folded(parts):
        raise InvalidDocument("not a folded document")


def check_document(document):
    """Raise InvalidDocument if the value is not a document."""
    if not isinstance(document, Document):
        raise InvalidDocument("not a document")


def folded(document):
    """Return the least folded document."""
    check_document(document)
    numbers = {}
    # For each open node the parts of its children so far, and one list more for the root.
    below = [[]]
    for tag in document.tags:
        if is_opening(tag):
            below.append([])
        else:
            part = (tag[1:], tuple(below.pop()))
            below[-1].append(numbers.setdefault(part, len(numbers)))
    if len(numbers) > MAX_PARTS:
        raise TooMany(MAX_PARTS)
    return tuple(list(numbers))


def folded_size(parts):
    """Return the number of nodes of the tree that a folded document stands for."""
    check_folded(parts)
    return size_of_parts(parts)


def size_of_parts(parts):
    """Return the number of nodes of the tree for the last part."""
    sizes = []
    for _, positions in parts:
        size = 1
        for position in positions:
            size += sizes[position]
        sizes.append(size)
    return sizes[-1]


def labels_used(parts):
    """Return all labels in the tree for the last part."""
    used = [False] * len(parts)
    used[-1] = True
    for k in range(len(parts) - 1, -1, -1):
        if used[k]:
            for position in parts[k][1]:
                used[position] = True
    return sorted(set([parts[k][0] for k in range(len(parts)) if used[k]]))


def spelled(parts):
    """Return the document that a folded document stands for."""
    check_folded(parts)
    # Only where there are many labels, it matters which ones are used.
    if len(set([label for label, _ in parts])) > MAX_LABELS and len(labels_used(parts)) > MAX_LABELS:
        raise InvalidDocument("more than four labels")
    if size_of_parts(parts) > MAX_NODES:
        raise TooMany(MAX_NODES)
    tags, names, parents = nodes_of_parts(parts)
    return filled(Document("+a", "-a"), sorted(set(names)), tags, names, parents)
