"""Streams of tags: what can stand in them, and which nodes they open and close."""

from openmarks.base.checks import check_plain, is_integer
from openmarks.base.labels import check_labels
from openmarks.errors import BadTag, InvalidNumber, NothingToUndo

MAX_NODES = 5000


class Trail:
    """A beginning that goes on tag by tag, and the nodes that its tags open and close.

    seen has the tags, opened the opening tag of each node, parents the parent of each
    node or None, closed the closed nodes in the order of their closings, and current
    the current node or None. All lists grow and shrink at their ends only, so that
    the work for a tag does not depend on what was read before.
    """

    def __init__(self, labels, plain):
        self.closings = {"+" + label: "-" if plain else "-" + label for label in labels}
        self.seen = []
        self.opened = []
        self.parents = []
        self.closed = []
        self.current = None

    def branch(self):
        """Return an equal trail that goes its own way."""
        other = Trail((), False)
        other.closings = self.closings
        other.seen = list(self.seen)
        other.opened = list(self.opened)
        other.parents = list(self.parents)
        other.closed = list(self.closed)
        other.current = self.current
        return other

    def take(self, tags):
        """Read all the tags, or none and raise BadTag for the first that cannot stand there."""
        before = len(self.seen)
        if not isinstance(tags, tuple):
            raise BadTag(before)
        done = self.go_on(tags)
        if done < len(tags):
            self.back(done)
            raise BadTag(before + done)

    def go_on(self, tags):
        """Read the tags up to the first wrong one, and return how many were read."""
        closings, opened, parents, closed = self.closings, self.opened, self.parents, self.closed
        node = self.current
        done = 0
        for tag in tags:
            if node is not None and tag == closings[opened[node]]:
                closed.append(node)
                node = parents[node]
            # Only strings are looked up, as other values may have no place in a dict.
            elif isinstance(tag, str) and tag in closings and (
                    len(opened) < MAX_NODES if node is not None else not opened):
                parents.append(node)
                node = len(opened)
                opened.append(tag)
            else:
                break
            done += 1
        self.current = node
        self.seen.extend(tags[:done])
        return done

    def back(self, many):
        """Take back the last tags, and return how many are left."""
        if not is_integer(many) or many < 0:
            raise InvalidNumber(many)
        if many > len(self.seen):
            raise NothingToUndo(many)
        for _ in range(many):
            if is_opening(self.seen.pop()):
                self.opened.pop()
                self.current = self.parents.pop()
            else:
                self.current = self.closed.pop()
        return len(self.seen)

    def is_whole(self):
        """Return whether the tags are those of a whole document."""
        return bool(self.opened) and self.current is None

    def path(self):
        """Return the path of the current node, or () if no node is open."""
        return () if self.current is None else self.path_of(self.current)

    def path_of(self, node):
        """Return the path of a node that was opened."""
        labels = []
        while node is not None:
            labels.append(self.opened[node][1:])
            node = self.parents[node]
        return tuple(labels[::-1])

    def node_above(self, height):
        """Return the node that lies so many steps above the current one, or None for None."""
        if height is None:
            return None
        node = self.current
        for _ in range(height):
            node = self.parents[node]
        return node

    def tags_next(self):
        """Return all tags that can stand next, ascending."""
        if self.current is None:
            return () if self.opened else tuple(list(self.closings))
        tags = list(self.closings) if len(self.opened) < MAX_NODES else []
        return (*tags, self.closings[self.opened[self.current]])

    def named_tags(self):
        """Return the tags with named closings, whatever the closings that were read."""
        named = {tag: "-" + tag[1:] for tag in self.closings}
        # The closings in the order of the nodes that they close, the first one last.
        ends = [named[self.opened[node]] for node in self.closed[::-1]]
        return tuple([tag if tag in named else ends.pop() for tag in self.seen])


def is_opening(tag):
    """Return whether the tag of a beginning opens a node."""
    return tag[0] == "+"


def trail_of(labels, stream, plain):
    """Return the trail of a beginning; the labels and the kind of closings were checked."""
    trail = Trail(labels, plain)
    if not isinstance(stream, tuple):
        raise BadTag(0)
    # Nothing needs to be taken back, as the trail is not used behind an error.
    done = trail.go_on(stream)
    if done < len(stream):
        raise BadTag(done)
    return trail


def is_stream(labels, value, *, plain=False):
    """Return whether the value is the stream of a whole document with at most 5000 nodes."""
    check_labels(labels)
    check_plain(plain)
    trail = Trail(labels, plain)
    return isinstance(value, tuple) and trail.go_on(value) == len(value) and trail.is_whole()


def is_beginning(labels, value, *, plain=False):
    """Return whether the value is a beginning."""
    check_labels(labels)
    check_plain(plain)
    return isinstance(value, tuple) and Trail(labels, plain).go_on(value) == len(value)


def open_path(labels, stream, *, plain=False):
    """Return the path of the current node, or () if no node is open."""
    check_labels(labels)
    check_plain(plain)
    return trail_of(labels, stream, plain).path()


def next_tags(labels, stream, *, plain=False):
    """Return all tags that can stand next, ascending."""
    check_labels(labels)
    check_plain(plain)
    return trail_of(labels, stream, plain).tags_next()


def paths_on(labels, stream, *, plain=False):
    """Yield the paths of all nodes that are opened, in the order of their openings."""
    check_labels(labels)
    check_plain(plain)
    # The whole stream is checked first, so that no path comes ahead of an error.
    trail_of(labels, stream, plain)
    path = []
    for tag in stream:
        if is_opening(tag):
            path.append(tag[1:])
            yield tuple(path)
        else:
            path.pop()


def closing_order(labels, stream, *, plain=False):
    """Yield the numbers of the nodes that are closed, in the order of their closings."""
    check_labels(labels)
    check_plain(plain)
    trail = trail_of(labels, stream, plain)
    yield from trail.closed


def named_stream(labels, stream):
    """Return the beginning with named closings for one with plain closings."""
    check_labels(labels)
    return trail_of(labels, stream, True).named_tags()


def plain_stream(labels, stream):
    """Return the beginning with plain closings for one with named closings."""
    check_labels(labels)
    trail_of(labels, stream, False)
    return tuple([tag if is_opening(tag) else "-" for tag in stream])
