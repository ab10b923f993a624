"""The frames of a query that has a number, and all stacks of frames to which followers come."""

from openmarks.base.checks import is_index
from openmarks.gaps.levels import limited, studied
from openmarks.queries.queries import columns_of


class Frames:
    """How the frames of a least query go on when nodes are opened and closed.

    number and level have for each state those of its part. returns has the least state
    of a part from which a closing's label leads to a state of this part with a certain
    row; two states with equal rows are the same below. A closing is the label, or None
    if closings are plain.
    """

    def __init__(self, query, plain):
        study = studied(query, plain)
        limited(study)
        self.least = study.least
        self.plainly = plain
        self.number = study.relations.number
        self.level = study.level_list()
        self.columns = columns_of(self.least[0])
        self.returns = {}
        labels, _, rows, _ = self.least
        for state, row in enumerate(rows):
            for label, other in zip(labels, row):
                if self.number[other] == self.number[state]:
                    key = (self.number[state], rows[other], self.closing(label))
                    self.returns.setdefault(key, state)

    def closing(self, label):
        """Return the closing of a node with this label."""
        return None if self.plainly else label

    def of_root(self, label):
        """Return the frame of a root."""
        return (self.least[1][self.columns[label]], ())

    def behind(self, frame, label):
        """Return whether an opening begins a new frame, and the frame behind it."""
        state, ways = frame
        after = self.least[2][state][self.columns[label]]
        if self.level[after] > self.level[state]:
            return True, (after, ())
        if self.number[after] != self.number[state]:
            ways = ways + ((state, label),)
        return False, (after, ways)

    def before(self, frame, closing):
        """Return the frame behind a closing, or None."""
        state, ways = frame
        rows = self.least[2]
        row = rows[state]
        part = self.number[state]
        for k in range(len(ways), -1, -1):
            found = self.returns.get((part, row, closing))
            if found is not None:
                return (found, ways[:k])
            if k > 0:
                leaving, label = ways[k - 1]
                after = rows[leaving][self.columns[label]]
                if rows[after] == row and self.closing(label) == closing:
                    return (leaving, ways[:k - 1])
                part = self.number[leaving]
        return None

    def has(self, value):
        """Return whether the value is a frame."""
        rows = self.least[2]
        if not isinstance(value, tuple) or len(value) != 2:
            return False
        state, ways = value
        if not is_index(state, len(rows)) or not isinstance(ways, tuple):
            return False
        part = None
        for way in ways:
            if not isinstance(way, tuple) or len(way) != 2:
                return False
            if not is_index(way[0], len(rows)) or way[1] not in self.least[0]:
                return False
            if part is not None and self.number[way[0]] != part:
                return False
            after = rows[way[0]][self.columns[way[1]]]
            part = self.number[after]
            if part == self.number[way[0]] or self.level[after] != self.level[way[0]]:
                return False
        return part is None or self.number[state] == part


class Openings:
    """What follows below nodes from the frames of their openings, as far as it is asked for.

    It depends on this frame alone. stands has for it the frames in which its node can be
    the current one, below the frames of openings of children that begin no new frame, and
    outer, for each closing, the frames of openings of nodes that have it as a child.
    """

    def __init__(self, frames, most):
        self.known = frames
        self.most = most
        self.stands = {}
        self.inner = {}
        self.outer = {}
        self.seen = {}
        self.waiting = []

    def add_opening(self, frame):
        """Note that a node can be opened with this frame."""
        if frame not in self.stands:
            self.stands[frame] = {}
            self.inner[frame] = {}
            self.outer[frame] = {}
            self.add_stand(frame, frame)

    def add_stand(self, opening, frame):
        """Note that the node of an opening can be the current one in this frame."""
        if frame not in self.stands[opening]:
            self.stands[opening][frame] = True
            self.seen[frame] = True
            self.waiting.append((opening, frame))

    def follow(self, begun):
        """Find what follows from a frame that begins; return whether there are few frames."""
        self.add_opening(begun)
        while self.waiting and len(self.seen) <= self.most:
            opening, frame = self.waiting.pop()
            for label in self.known.least[0]:
                new, child = self.known.behind(frame, label)
                if not new:
                    self.add_child(opening, child, self.known.closing(label))
            for closing, others in self.outer[opening].items():
                back = self.known.before(frame, closing)
                for other in others:
                    self.add_stand(other, back)
        return len(self.seen) <= self.most

    def add_child(self, opening, child, closing):
        """Note that a child can be opened below the node of an opening."""
        self.add_opening(child)
        self.inner[opening][child] = True
        others = self.outer[child].setdefault(closing, {})
        if opening not in others:
            others[opening] = True
            for stand in list(self.stands[child]):
                self.add_stand(opening, self.known.before(stand, closing))

    def tops(self, begun):
        """Return all frames that can lie on top until the node of a begun frame is closed."""
        found = {}
        openings = {begun: True}
        order = [begun]
        done = 0
        while done < len(order):
            for stand in self.stands[order[done]]:
                found[stand] = True
            for child in self.inner[order[done]]:
                if child not in openings:
                    openings[child] = True
                    order.append(child)
            done += 1
        return list(found)


def all_stacks(frames, most):
    """Return the stacks of frames of all beginnings, the empty one first, or None for more than most."""
    openings = Openings(frames, most)
    tops = {}
    stacks = [()]
    done = 0
    while done < len(stacks):
        for begun in begun_on(frames, stacks[done]):
            if begun not in tops:
                if not openings.follow(begun):
                    return None
                tops[begun] = openings.tops(begun)
            stacks.extend([stacks[done] + (frame,) for frame in tops[begun]])
        stacks = list({stack: True for stack in stacks})
        if len(stacks) > most:
            return None
        done += 1
    return stacks


def begun_on(frames, stack):
    """Return the frames that can begin on top of a stack."""
    labels = frames.least[0]
    if stack == ():
        return [frames.of_root(label) for label in labels]
    told = [frames.behind(stack[-1], label) for label in labels]
    return [frame for new, frame in told if new]
