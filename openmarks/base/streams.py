"""Streams of tags: what can stand in them, and which nodes they open and close."""

from openmarks.base.checks import check_plain
from openmarks.base.labels import check_labels, closing_tag, opening_tag
from openmarks.errors import BadTag

MAX_NODES = 5000


def is_opening(tag):
    """Return whether the tag of a beginning opens a node."""
    return tag.startswith("+")


def tags_behind(labels, path, many, plain):
    """Return all tags that can stand behind a beginning, ascending.

    The beginning has opened so many nodes, and path has the labels of those that
    are still open.
    """
    if many > 0 and not path:
        return ()
    tags = []
    if many < MAX_NODES:
        tags = [opening_tag(label) for label in labels]
    if path:
        tags.append(closing_tag(path[-1], plain))
    return tuple(tags)


def read_beginning(labels, stream, plain):
    """Return the path of the current node of a beginning, and how many nodes it opens.

    The labels and the kind of closings were checked before.
    """
    if not isinstance(stream, tuple):
        raise BadTag(0)
    path = []
    many = 0
    for position, tag in enumerate(stream):
        if tag not in tags_behind(labels, path, many, plain):
            raise BadTag(position)
        if is_opening(tag):
            path.append(tag[1:])
            many += 1
        else:
            path.pop()
    return tuple(path), many


def is_stream(labels, value, *, plain=False):
    """Return whether the value is the stream of a whole document with at most 5000 nodes."""
    check_labels(labels)
    check_plain(plain)
    try:
        path, many = read_beginning(labels, value, plain)
    except BadTag:
        return False
    return many > 0 and path == ()


def is_beginning(labels, value, *, plain=False):
    """Return whether the value is a beginning."""
    check_labels(labels)
    check_plain(plain)
    try:
        read_beginning(labels, value, plain)
    except BadTag:
        return False
    return True


def open_path(labels, stream, *, plain=False):
    """Return the path of the current node, or () if no node is open."""
    check_labels(labels)
    check_plain(plain)
    path, _ = read_beginning(labels, stream, plain)
    return path


def next_tags(labels, stream, *, plain=False):
    """Return all tags that can stand next, ascending."""
    check_labels(labels)
    check_plain(plain)
    path, many = read_beginning(labels, stream, plain)
    return tags_behind(labels, path, many, plain)


def paths_on(labels, stream, *, plain=False):
    """Yield the paths of all nodes that are opened, in the order of their openings."""
    check_labels(labels)
    check_plain(plain)
    # The whole stream is checked first, so that no path comes ahead of an error.
    read_beginning(labels, stream, plain)
    path = []
    for tag in stream:
        if is_opening(tag):
            path.append(tag[1:])
            yield tuple(path)
        else:
            path.pop()


def closing_order(labels, stream, *, plain=False):
    """Yield the numbers of the nodes that are closed, in the order of their closings."""
    check_labels(labels)
    check_plain(plain)
    # As in paths_on, errors come ahead of all numbers.
    read_beginning(labels, stream, plain)
    nodes = []
    many = 0
    for tag in stream:
        if is_opening(tag):
            nodes.append(many)
            many += 1
        else:
            yield nodes.pop()


def named_stream(labels, stream):
    """Return the beginning with named closings for one with plain closings."""
    check_labels(labels)
    read_beginning(labels, stream, True)
    path = []
    tags = []
    for tag in stream:
        if is_opening(tag):
            path.append(tag[1:])
            tags.append(tag)
        else:
            tags.append(closing_tag(path.pop(), False))
    return tuple(tags)


def plain_stream(labels, stream):
    """Return the beginning with plain closings for one with named closings."""
    check_labels(labels)
    read_beginning(labels, stream, False)
    return tuple([tag if is_opening(tag) else "-" for tag in stream])
