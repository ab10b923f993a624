"""The labels and the parents of the nodes of trees, read from tags, texts and folded documents."""

from openmarks.base.labels import MAX_LABELS, closing_tag, is_label, opening_tag
from openmarks.base.streams import MAX_NODES, is_opening
from openmarks.errors import BadTag, ParseError


def nodes_opened(tags):
    """Return the labels in the tags of a document, and the labels and the parents of all nodes."""
    known = {}
    if not tags or not is_opening_with(known, tags[0]):
        raise BadTag(0)
    closing, name = known[tags[0]]
    names = [name]
    parents = [None]
    # The current node, and the closings of the nodes above it.
    node = 0
    above = [None]
    for tag in tags[1:]:
        if tag == closing:
            node = parents[node]
            closing = above.pop()
            if node is None:
                break
        elif isinstance(tag, str) and (tag in known or is_opening_with(known, tag)):
            above.append(closing)
            parents.append(node)
            node = len(names)
            closing, name = known[tag]
            names.append(name)
        else:
            break
    if len(names) > MAX_NODES:
        raise BadTag(place_of_opening(tags, MAX_NODES))
    # All nodes were closed but the current one and those above it.
    done = 2 * len(names) - len(above) if node is not None else 2 * len(names)
    if node is not None or done < len(tags):
        raise BadTag(done)
    return sorted([label for _, label in known.values()]), names, parents


def is_opening_with(known, tag):
    """Return whether the value is a tag that opens a node with one of at most four labels.

    A new one is noted with its closing and its label.
    """
    if not isinstance(tag, str) or not tag.startswith("+") or not is_label(tag[1:]):
        return False
    if tag not in known and len(known) == MAX_LABELS:
        return False
    known[tag] = (closing_tag(tag[1:], False), tag[1:])
    return True


def place_of_opening(tags, number):
    """Return the position of the tag that opens the node with this number."""
    for place, tag in enumerate(tags):
        if is_opening(tag):
            if number == 0:
                return place
            number -= 1
    return len(tags)


def heights_of(parents):
    """Return for each node how many nodes are above it."""
    heights = []
    for parent in parents:
        heights.append(0 if parent is None else heights[parent] + 1)
    return heights


def sizes_of(parents):
    """Return for each node how many nodes are in the tree whose root it is."""
    sizes = [1] * len(parents)
    for node in range(len(parents) - 1, 0, -1):
        sizes[parents[node]] += sizes[node]
    return sizes


def nodes_in_text(text):
    """Return the labels in the text of a document, its tags, and the labels and parents of its nodes."""
    labels = {}
    known = {}
    tags = []
    names = []
    parents = []
    # The node whose children are written next.
    parent = None
    for word in text.split(" "):
        if word not in known:
            known[word] = nodes_in_word(labels, word)
        inner, begun, closed = known[word]
        if (parent is None and names) or len(names) + len(inner) > MAX_NODES:
            raise ParseError("more than one tree, or more than 5000 nodes")
        tags.extend(begun)
        parents.append(parent)
        if len(inner) > 1:
            # The nodes lie one below the other, and the last one of them is closed again.
            parent = len(names) + len(inner) - 2
            parents.extend(list(range(len(names), parent + 1)))
        names.extend(inner)
        for _ in range(closed):
            if parent is None:
                raise ParseError("more parentheses are closed than opened")
            tags.append(labels[names[parent]])
            parent = parents[parent]
    if parent is not None:
        raise ParseError("more parentheses are opened than closed")
    return sorted(labels), tags, names, parents


def nodes_in_word(labels, word):
    """Return what is in the text of a document between two blanks.

    These are the labels of nodes below one another, the tags that open them and close
    the last one again, and how many parentheses are closed behind them. New labels are
    noted with their closings.
    """
    core = word.rstrip(")")
    names = core.split("(")
    for name in names:
        if name not in labels:
            if not is_label(name) or len(labels) == MAX_LABELS:
                raise ParseError("not a label, or a fifth one")
            labels[name] = closing_tag(name, False)
    begun = ["+" + name for name in names]
    begun.append(labels[names[-1]])
    return names, begun, len(word) - len(core)


def nodes_of_parts(parts):
    """Return the tags, and the labels and the parents of all nodes, for the tree of the last part.

    Where a part stands for the second time, what was written for it is written again.
    """
    part = len(parts) - 1
    label, positions = parts[part]
    tags = [opening_tag(label)]
    names = [label]
    parents = [None]
    spans = {}
    # The part that is written has so many children already, its number and its first tag.
    turn = node = start = 0
    rest = []
    while True:
        while turn < len(positions):
            child = positions[turn]
            turn += 1
            if child in spans:
                repeat_span(tags, names, parents, spans[child], node)
            else:
                rest.append((part, turn, node, start))
                parents.append(node)
                part, turn, node, start = child, 0, len(names), len(tags)
                label, positions = parts[part]
                names.append(label)
                tags.append(opening_tag(label))
        tags.append(closing_tag(label, False))
        if not rest:
            return tags, names, parents
        spans[part] = (start, len(tags), node, len(names))
        part, turn, node, start = rest.pop()
        label, positions = parts[part]


def repeat_span(tags, names, parents, span, node):
    """Write a part again, as a child of a node."""
    start, end, first, behind = span
    parents.append(node)
    if behind == first + 1:
        tags.append(tags[start])
        tags.append(tags[start + 1])
        names.append(names[first])
        return
    more = len(names) - first
    again = [parent + more for parent in parents[first + 1:behind]]
    parents.extend(again)
    again = names[first:behind]
    names.extend(again)
    again = tags[start:end]
    tags.extend(again)
