"""Tables of visits and stands: made, read and judged.

In a table, the stands of a visit are grouped by their bookmarks: there is an integer with
the bit of each state for each pair of sets (on, taken). Such a pair is one integer, too,
with on in the lower bits and taken in the higher ones.
"""

from openmarks.base.checks import is_ascending


def states_of(mask):
    """Return the states whose bits an integer has."""
    states = []
    while mask > 0:
        states.append(mask.bit_length() - 1)
        mask = mask - (1 << states[-1])
    return states


def stands_of(groups):
    """Return the pairs of a state and both sets for the groups of stands."""
    return [(state, marks) for marks, mask in groups.items() for state in states_of(mask)]


def brings_at(walk, state, marks, place):
    """Return what the closing of a node at a stand brings to its parent.

    These are all bookmarks that were put down since the opening of the node, those that
    are put on the parent, and the state behind the closing.
    """
    put, after = walk.closing(state, place, marks & walk.every)
    return marks >> walk.bits | put, put, after


def left_by(walk, marks, later):
    """Return what is left of the sets of a stand when these bookmarks were put down below it."""
    return marks & ~later | later << walk.bits


def brought(walk, groups, place):
    """Return what closings at stands bring: the states for what was put down, and on the parent."""
    found = {}
    for state, marks in stands_of(groups):
        later, put, after = brings_at(walk, state, marks, place)
        puts = found.setdefault(later, {})
        puts[put] = puts.get(put, 0) | 1 << after
    return found


class Table:
    """The visits and stands of a walk, and how many stands these are, for each visit.

    Visits have numbers, by their places in order. For each visit, found has its stands,
    and fresh those of them from which the rules are still to be followed. For each place of
    a closing, brings has what the closing of such a node brings, and callers, by the numbers
    of visits, the sets with which it can be opened below them, and what is left of these by
    all bookmarks that it brings. Often the same is left of many sets.
    """

    def __init__(self, walk, most):
        self.walk = walk
        self.most = most
        self.many = 0
        self.visits = {}
        self.order = []
        self.found = []
        self.fresh = []
        self.callers = []
        self.brings = []
        self.waiting = []

    def fill(self):
        """Find all that follows from the rules, or stop when there are more stands than most."""
        for k, p in enumerate(self.walk.roots):
            _, placed, after = self.walk.opening(0, k)
            self.visit_number((p, after, placed))
        while self.waiting:
            waiting = self.waiting
            self.waiting = []
            for number in waiting:
                fresh = self.fresh[number]
                self.fresh[number] = {}
                self.open_children(number, stands_of(fresh))
                self.close_fresh(number, fresh)
                if self.many > self.most:
                    return

    def visit_number(self, visit):
        """Return the number of a visit, which has its first stand."""
        if visit not in self.visits:
            self.visits[visit] = len(self.order)
            self.order.append(visit)
            self.found.append({})
            self.fresh.append({})
            self.callers.append({})
            self.brings.append({})
            _, state, placed = visit
            self.note(self.visits[visit], placed | placed << self.walk.bits, 1 << state)
        return self.visits[visit]

    def note(self, number, marks, mask):
        """Note stands of a visit, all with the same sets."""
        found, fresh = self.found[number], self.fresh[number]
        known = found.get(marks, 0)
        new = mask & ~known
        if new > 0:
            if not fresh:
                self.waiting.append(number)
            found[marks] = known | new
            self.many += f"{new:b}".count("1")
            fresh[marks] = fresh.get(marks, 0) | new

    def open_children(self, number, stands):
        """Note the children that can be opened at stands of a visit."""
        row = self.walk.rows[self.order[number][0]]
        openings = {}
        for state, marks in stands:
            for k, p in enumerate(row):
                _, placed, after = self.walk.opening(state, k)
                openings[(marks, self.walk.places[k], p, after, placed)] = True
        for marks, place, p, after, placed in openings:
            if self.many > self.most:
                return
            self.add_caller(self.visit_number((p, after, placed)), place, number, marks)

    def add_caller(self, child, place, number, marks):
        """Note that a child can be opened at stands of a visit with the same sets."""
        callers = self.callers[child].setdefault(place, {})
        every, left_of = callers.setdefault(number, ({}, {}))
        if marks in every:
            return
        every[marks] = True
        if place not in self.brings[child]:
            self.brings[child][place] = brought(self.walk, self.found[child], place)
        for later, puts in self.brings[child][place].items():
            left = left_by(self.walk, marks, later)
            known = left_of.setdefault(later, {})
            if left not in known:
                known[left] = True
                self.bring(number, [left], puts)

    def close_fresh(self, number, fresh):
        """Note what the closing of a node at fresh stands brings to its parents."""
        for place, callers in self.callers[number].items():
            known = self.brings[number][place]
            for later, puts in brought(self.walk, fresh, place).items():
                new = new_states(known.setdefault(later, {}), puts)
                for caller, (every, left_of) in callers.items():
                    if later not in left_of:
                        left_of[later] = {left_by(self.walk, marks, later): True for marks in every}
                    self.bring(caller, left_of[later], new)

    def bring(self, number, many, puts):
        """Note the stands of a visit behind children that put down bookmarks and are closed."""
        found = self.found[number]
        for put, mask in puts.items():
            for left in many:
                # Nearly always there is nothing new.
                if mask & ~found.get(left | put, 0) > 0:
                    self.note(number, left | put, mask)

    def told_pairs(self):
        """Return all pairs of a state of the query and what is told for a node in this state."""
        found = {}
        for k, p in enumerate(self.walk.roots):
            found[(p, self.walk.opening(0, k)[0])] = True
        for (p, _, _), groups in zip(self.order, self.found):
            for state in states_in_groups(groups):
                for k, after in enumerate(self.walk.rows[p]):
                    found[(after, self.walk.opening(state, k)[0])] = True
        return list(found)

    def is_right(self):
        """Return whether nothing wrong is told."""
        return not any([self.walk.is_wrong(p, colours) for p, colours in self.told_pairs()])

    def written(self):
        """Return the table as it is written."""
        rows = []
        for visit, groups in zip(self.order, self.found):
            stands = sorted([self.walk.written_stand(state, marks) for state, marks in stands_of(groups)])
            rows.append((self.walk.written_visit(visit), tuple(stands)))
        return tuple(sorted(rows))


def new_states(known, groups):
    """Add the states to those that are known, and return those that are new."""
    new = {}
    for key, mask in groups.items():
        mask = mask & ~known.get(key, 0)
        if mask > 0:
            known[key] = known.get(key, 0) | mask
            new[key] = mask
    return new


def states_in_groups(groups):
    """Return the states of all stands."""
    every = 0
    for mask in groups.values():
        every = every | mask
    return states_of(every)


def table_from(walk, value):
    """Return a dict from visits to their groups for a table that is written so, or None."""
    if not isinstance(value, tuple):
        return None
    table = {}
    visits = []
    for pair in value:
        if not isinstance(pair, tuple) or len(pair) != 2:
            return None
        visit = walk.visit_from(pair[0])
        groups = groups_from(walk, pair[1])
        if visit is None or groups is None:
            return None
        table[visit] = groups
        visits.append(pair[0])
    return table if is_ascending(visits) else None


def groups_from(walk, value):
    """Return the groups of stands that are written so, or None."""
    if not isinstance(value, tuple):
        return None
    groups = {}
    for written in value:
        stand = walk.stand_from(written)
        if stand is None:
            return None
        state, marks = stand
        groups[marks] = groups.get(marks, 0) | 1 << state
    return groups if is_ascending(value) else None


def is_closed_table(walk, value):
    """Return whether the value is a table from which the rules lead to nothing else, or wrong."""
    table = table_from(walk, value)
    if table is None:
        return False
    for k, p in enumerate(walk.roots):
        colours, placed, after = walk.opening(0, k)
        if walk.is_wrong(p, colours) or (p, after, placed) not in table:
            return False
    brings = {}
    return all([is_closed_visit(walk, table, brings, visit) for visit in table])


def is_closed_visit(walk, table, brings, visit):
    """Return whether the rules lead from a visit to nothing that is wrong or not in the table.

    What the closings of children bring is kept in a dict, as many visits ask for it.
    """
    p, state, placed = visit
    groups = table[visit]
    if not groups.get(placed | placed << walk.bits, 0) >> state & 1:
        return False
    openings = {}
    for stand, marks in stands_of(groups):
        for k, after in enumerate(walk.rows[p]):
            colours, put, behind = walk.opening(stand, k)
            if walk.is_wrong(after, colours) or (after, behind, put) not in table:
                return False
            openings[(marks, walk.places[k], (after, behind, put))] = True
    done = {}
    for marks, place, child in openings:
        if (child, place) not in brings:
            brings[(child, place)] = brought(walk, table[child], place)
        for later, puts in brings[(child, place)].items():
            left = left_by(walk, marks, later)
            if (child, place, later, left) not in done:
                done[(child, place, later, left)] = True
                if any([mask & ~groups.get(left | put, 0) > 0 for put, mask in puts.items()]):
                    return False
    return True
