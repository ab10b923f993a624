"""Documents with as few nodes as possible on which something wrong is told."""

from heapq import heappop, heappush

from openmarks.base.labels import closing_tag, opening_tag
from openmarks.documents.documents import Document
from openmarks.machines.tables import brings_at


class Search:
    """The visits and stands of a walk, each stand with the least number of nodes below it.

    Visits have numbers, by their places in order. reached has for each visit the stands
    whose costs are known: a cost and an origin, which is None for the first stand and else
    (the stand ahead of a child, the child's label, its visit, its last stand). costs has
    the least cost of each stand so far. callers has, for each place of a closing, the
    visits, by their numbers, and sets with which such a child can be opened, with the
    cheapest such stand (cost, stand, label), and brings what its closing brings to them and
    the state behind it, with the cheapest last stand (cost, stand). Costs are found in
    ascending order, so that what comes first is the cheapest.
    """

    def __init__(self, walk):
        self.walk = walk
        self.visits = {}
        self.order = []
        self.costs = []
        self.reached = []
        self.callers = []
        self.brings = []
        self.heap = []
        self.pushed = 0
        for k, p in enumerate(walk.roots):
            _, placed, after = walk.opening(0, k)
            self.visit_number((p, after, placed))

    def visit_number(self, visit):
        """Return the number of a visit, which has its first stand."""
        if visit not in self.visits:
            self.visits[visit] = len(self.order)
            self.order.append(visit)
            self.costs.append({})
            self.reached.append({})
            self.callers.append({})
            self.brings.append({})
            _, state, placed = visit
            self.propose(self.visits[visit], (state, placed | placed << self.walk.bits), 0, None)
        return self.visits[visit]

    def propose(self, number, stand, cost, origin):
        """Note that a stand of a visit has at most this cost, which is less than what was known."""
        self.costs[number][stand] = cost
        # The number of the entry keeps the stands from being compared.
        heappush(self.heap, (cost, self.pushed, number, stand, origin))
        self.pushed += 1

    def find_up_to(self, limit):
        """Find all stands that cost at most so many nodes."""
        while self.heap and self.heap[0][0] <= limit:
            cost, _, number, stand, origin = heappop(self.heap)
            if stand not in self.reached[number]:
                self.reached[number][stand] = (cost, origin)
                self.open_children(number, stand, cost)
                self.close_node(number, stand, cost)

    def open_children(self, number, stand, cost):
        """Note the children that can be opened at a stand."""
        state, marks = stand
        for k, p in enumerate(self.walk.rows[self.order[number][0]]):
            _, placed, after = self.walk.opening(state, k)
            child = self.visit_number((p, after, placed))
            place = self.walk.places[k]
            callers = self.callers[child].setdefault(place, {})
            if (number, marks) not in callers:
                callers[(number, marks)] = (cost, stand, k)
                if place not in self.brings[child]:
                    self.brings[child][place] = {}
                    for last, (many, _) in self.reached[child].items():
                        self.note_brought(child, last, many, place)
                else:
                    self.bring(child, [(number, marks)], list(self.brings[child][place]), place)

    def close_node(self, number, stand, cost):
        """Note what the closing of a node at a stand brings to its parents."""
        for place in self.callers[number]:
            self.note_brought(number, stand, cost, place)

    def note_brought(self, number, stand, cost, place):
        """Note what a closing at a stand brings, if it is not known to be brought for less."""
        brings = brings_at(self.walk, stand[0], stand[1], place)
        if brings not in self.brings[number][place]:
            self.brings[number][place][brings] = (cost, stand)
            self.bring(number, list(self.callers[number][place]), [brings], place)

    def bring(self, child, callers, many, place):
        """Note the stands of parents behind a child that brings one of these."""
        costs = self.costs
        cheapest = self.callers[child][place]
        for brings in many:
            cost, last = self.brings[child][place][brings]
            later, put, after = brings
            # What left_by does, written out here, as most of the work is done in these lines.
            kept, added = ~later, later << self.walk.bits | put
            for caller in callers:
                number, marks = caller
                ahead, stand, k = cheapest[caller]
                total = ahead + 1 + cost
                behind = (after, marks & kept | added)
                if costs[number].get(behind, total + 1) > total:
                    self.propose(number, behind, total, (stand, k, child, last))

    def nearest_wrong(self):
        """Return the steps to the first wrong opening with the stands that were found, or None.

        It is a pair: the number of nodes up to this opening, its own included, and a tuple
        of the stands (number of a visit, stand, label) at which it and the nodes above it
        are opened; the root is opened at (None, None, label).
        """
        heap = []
        for k, p in enumerate(self.walk.roots):
            colours, placed, after = self.walk.opening(0, k)
            if self.walk.is_wrong(p, colours):
                return (1, ((None, None, k),))
            heappush(heap, (1, len(heap), self.visits[(p, after, placed)], (None, None, k)))
        pushed = len(heap)
        above = {}
        best = None
        while heap and (best is None or heap[0][0] + 1 < best[0]):
            total, _, number, origin = heappop(heap)
            if number in above:
                continue
            above[number] = origin
            for stand, (cost, _) in self.reached[number].items():
                behind = total + cost + 1
                if best is not None and behind >= best[0]:
                    break
                for k, child, wrong in self.openings_at(number, stand):
                    if wrong and (best is None or behind < best[0]):
                        best = (behind, (number, stand, k))
                    elif not wrong and child not in above:
                        heappush(heap, (behind, pushed, child, (number, stand, k)))
                        pushed += 1
        return None if best is None else (best[0], steps_up(above, best[1]))

    def openings_at(self, number, stand):
        """Return for each label at a stand the child's visit, and whether its opening is wrong."""
        found = []
        for k, p in enumerate(self.walk.rows[self.order[number][0]]):
            colours, placed, after = self.walk.opening(stand[0], k)
            found.append((k, self.visits[(p, after, placed)], self.walk.is_wrong(p, colours)))
        return found

    def tags_to(self, labels, number, stand):
        """Return the tags of all that is closed below a node when it is at a stand."""
        tags = []
        # What is still to be written, the next last: tags, and stands of visits.
        rest = [(number, stand)]
        while rest:
            item = rest.pop()
            if isinstance(item, str):
                tags.append(item)
                continue
            _, origin = self.reached[item[0]][item[1]]
            if origin is not None:
                ahead, k, child, last = origin
                rest.append(closing_tag(labels[k], False))
                rest.append((child, last))
                rest.append(opening_tag(labels[k]))
                rest.append((item[0], ahead))
        return tags


def steps_up(above, step):
    """Return the step and those above it, from the root on."""
    steps = []
    while step[0] is not None:
        steps.append(step)
        step = above[step[0]]
    return (step, *steps[::-1])


def smallest_wrong(walk, labels, most):
    """Return a smallest document on which something wrong is told, as there is one.

    Returns None if it has more nodes than most.
    """
    search = Search(walk)
    limit = 0
    while True:
        search.find_up_to(limit)
        found = search.nearest_wrong()
        # With another stand there would be its cost, the node itself and the wrong one.
        if found is not None and found[0] <= limit + 3:
            return document_on(search, labels, found[1]) if found[0] <= most else None
        if limit >= most:
            return None
        limit = min(2 * limit + 1, most if found is None else found[0] - 3)


def document_on(search, labels, steps):
    """Return the document in which the last node is opened by the last of the steps."""
    tags = []
    for number, stand, k in steps:
        if number is not None:
            tags.extend(search.tags_to(labels, number, stand))
        tags.append(opening_tag(labels[k]))
    tags.extend([closing_tag(labels[k], False) for _, _, k in steps[::-1]])
    return Document.of(tuple(tags))
