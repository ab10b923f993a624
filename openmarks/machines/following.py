"""Followers, which keep a frame for each of their bookmarks and do not know the depth."""

from openmarks.base.streams import Trail, is_opening
from openmarks.errors import InvalidOperation, TooMany, UnknownName
from openmarks.machines.frames import Frames, all_stacks
from openmarks.machines.machines import MAX_MACHINE_STATES, MAX_MARKS

# Any query with a number, for a new follower that is made equal to another one.
ANY_QUERY = (("a",), (0,), ((0,),), ("a",))


def check_frame(frames, frame):
    """Raise InvalidOperation if the value is not a frame."""
    if not frames.has(frame):
        raise InvalidOperation("not a frame of the query")


def check_label(frames, label):
    """Raise UnknownName if the value is not a label of the query."""
    if label not in frames.least[0]:
        raise UnknownName(label)


def is_frame(query, value, *, plain=False):
    """Return whether the value is a frame."""
    return Frames(query, plain).has(value)


def frame_of_root(query, label, *, plain=False):
    """Return the frame of a root."""
    frames = Frames(query, plain)
    check_label(frames, label)
    return frames.of_root(label)


def frame_behind(query, frame, label, *, plain=False):
    """Return whether an opening begins a new frame, and the frame behind it."""
    frames = Frames(query, plain)
    check_frame(frames, frame)
    check_label(frames, label)
    return frames.behind(frame, label)


def frame_before(query, frame, label, *, plain=False):
    """Return the frame behind a closing, or None if no part has what is looked for."""
    frames = Frames(query, plain)
    check_frame(frames, frame)
    if not plain:
        check_label(frames, label)
    elif label is not None:
        raise UnknownName(label)
    return frames.before(frame, label)


class Follower:
    """Reads the tags of one document and keeps a stack of frames.

    The positions are triples: the number of open nodes, the stack of frames, and for each
    frame but the first one the number of open nodes down to the one at which it began.
    There, the bookmark lies whose number is that of the frame in this order. There is
    a position behind each number of tags.
    """

    def __init__(self, query, *, plain=False):
        self._frames = Frames(query, plain)
        self._trail = Trail(self._frames.least[0], plain)
        self._positions = [(0, (), ())]

    def take(self, *tags):
        """Read the tags, and return the colours of the nodes that they open."""
        return self.take_all(tags)

    def take_all(self, tags):
        """Read a tuple of tags, and return the colours of the nodes that they open."""
        self._trail.take(tags)
        colours = self._frames.least[3]
        told = []
        position = self._positions[-1]
        for tag in tags:
            if is_opening(tag):
                position = opened_behind(self._frames, position, tag[1:])
                told.append(colours[position[1][-1][0]])
            else:
                position = closed_behind(self._frames, position, tag[1:])
            self._positions.append(position)
        return tuple(told)

    def back(self, many=1):
        """Take back the last tags, and return how many are left."""
        left = self._trail.back(many)
        del self._positions[left + 1:]
        return left

    def branch(self):
        """Return an equal follower that goes its own way."""
        other = Follower(ANY_QUERY)
        other._frames = self._frames
        other._trail = self._trail.branch()
        other._positions = list(self._positions)
        return other

    @property
    def tags(self):
        """The tags that were read."""
        return tuple(self._trail.seen)

    @property
    def frames(self):
        """The stack of frames from the bottom on, () if no node is open."""
        return self._positions[-1][1]

    @property
    def heights(self):
        """For each bookmark how many nodes above the current one it lies, or None."""
        depth, _, starts = self._positions[-1]
        told = [depth - start for start in starts]
        return tuple(told + [None] * (max(self._frames.level) - len(starts)))

    def __len__(self):
        return len(self._trail.seen)

    def __bool__(self):
        return bool(self._trail.is_whole())

    def __str__(self):
        return f"follower with {len(self._positions[-1][1])} frames behind {len(self._trail.seen)} tags"

    def __eq__(self, value):
        if not isinstance(value, Follower):
            return False
        if self._frames.least != value._frames.least or self._frames.plainly != value._frames.plainly:
            return False
        return self._trail.seen == value._trail.seen


def opened_behind(frames, position, label):
    """Return the position behind the opening of a node."""
    depth, stack, starts = position
    if depth == 0:
        return (1, (frames.of_root(label),), ())
    new, frame = frames.behind(stack[-1], label)
    if new:
        return (depth + 1, stack + (frame,), starts + (depth + 1,))
    return (depth + 1, stack[:-1] + (frame,), starts)


def closed_behind(frames, position, label):
    """Return the position behind the closing of a node; the label is empty for a plain one."""
    depth, stack, starts = position
    if depth == 1:
        return (0, (), ())
    if starts and starts[-1] == depth:
        return (depth - 1, stack[:-1], starts[:-1])
    return (depth - 1, stack[:-1] + (frames.before(stack[-1], label or None),), starts)


def flat_machine(query, *, plain=False):
    """Return a machine that is right for the query, with as many bookmarks as its number."""
    frames = Frames(query, plain)
    marks = max(frames.level)
    if marks > MAX_MARKS:
        raise TooMany(MAX_MARKS)
    stacks = all_stacks(frames, MAX_MACHINE_STATES)
    if stacks is None:
        raise TooMany(MAX_MACHINE_STATES)
    numbers = {stack: k for k, stack in enumerate(stacks)}
    labels = frames.least[0]
    opens = [tuple([flat_opening(frames, numbers, stack, label) for label in labels]) for stack in stacks]
    closings = (None,) if plain else labels
    closes = [
        tuple([flat_closing(frames, numbers, stack, closing, 1 << marks) for closing in closings])
        for stack in stacks]
    return (labels, plain, marks, tuple(opens), tuple(closes))


def flat_opening(frames, numbers, stack, label):
    """Return the entry of a flat machine for an opening in the state of a stack."""
    _, after, _ = opened_behind(frames, (len(stack), stack, ()), label)
    placed = 1 << (len(stack) - 1) if len(after) > len(stack) > 0 else 0
    return (frames.least[3][after[-1][0]], placed, numbers[after])


def flat_closing(frames, numbers, stack, closing, sets):
    """Return the entry of a flat machine for a closing in the state of a stack.

    What never happens, such as a closing that does not fit the stack, leads to any state.
    """
    pairs = []
    for on in range(sets):
        if stack == ():
            after = ()
        elif on > 0:
            after = stack[:-1]
        else:
            after = stack[:-1] + (frames.before(stack[-1], closing),)
        pairs.append((0, numbers.get(after, 0)))
    return tuple(pairs)
