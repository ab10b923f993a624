"""What machines do at openings and closings, for one machine with a query or for two at once.

Both classes have the same methods. A state is a number, a set of bookmarks an integer,
and a visit a triple (p, state, placed), where p is a state of the query, or 0 for two
machines. A stand is a pair of a state and an integer with the sets on and taken, the first
one in the lower bits. There are as many bits as bookmarks. Labels are told by their places.
"""

from openmarks.base.checks import is_index


class OneMachine:
    """A machine beside the states of a least query, whose colours it should tell."""

    def __init__(self, machine, least):
        labels, plain, marks, self.opens, self.closes = machine
        _, self.roots, self.rows, self.colours = least
        self.places = [0 if plain else k for k in range(len(labels))]
        self.bits = marks
        self.every = (1 << marks) - 1

    def opening(self, state, k):
        """Return the colour, the bookmarks and the state of an opening."""
        return self.opens[state][k]

    def closing(self, state, place, on):
        """Return the bookmarks and the state of a closing."""
        return self.closes[state][place][on]

    def is_wrong(self, p, told):
        """Return whether this colour is wrong for a node in this state of the query."""
        return told != self.colours[p]

    def visit_from(self, value):
        """Return the visit that is written so, or None."""
        if not isinstance(value, tuple) or len(value) != 3 or not is_index(value[0], len(self.rows)):
            return None
        return value if self.is_state_with(value[1:]) else None

    def stand_from(self, value):
        """Return the stand that is written so, or None."""
        if not isinstance(value, tuple) or len(value) != 3:
            return None
        return (value[0], value[1] | value[2] << self.bits) if self.is_state_with(value) else None

    def is_state_with(self, value):
        """Return whether the values are a state and sets of bookmarks."""
        return is_index(value[0], len(self.opens)) and all([is_index(one, self.every + 1) for one in value[1:]])

    def written_visit(self, visit):
        """Return the visit as it is written in a table."""
        return visit

    def written_stand(self, state, marks):
        """Return the stand as it is written in a table."""
        return (state, marks & self.every, marks >> self.bits)


class TwoMachines:
    """Two machines that read the same document and should tell the same colours.

    Each pair of states that occurs has a number. A set of bookmarks has those of the
    first machine and, behind them, those of the second one.
    """

    def __init__(self, one, other):
        self.one = one
        self.other = other
        labels, plain, self.shift, _, _ = one
        self.roots = (0,) * len(labels)
        self.rows = ((0,) * len(labels),)
        self.places = [0 if plain else k for k in range(len(labels))]
        self.low = (1 << self.shift) - 1
        self.bits = self.shift + other[2]
        self.every = (1 << self.bits) - 1
        self.pairs = [(0, 0)]
        self.numbers = {(0, 0): 0}

    def number_of(self, pair):
        """Return the number of a pair of states."""
        if pair not in self.numbers:
            self.numbers[pair] = len(self.pairs)
            self.pairs.append(pair)
        return self.numbers[pair]

    def opening(self, state, k):
        """Return the pair of colours, the bookmarks and the state of an opening."""
        g, h = self.pairs[state]
        colour, placed, after = self.one[3][g][k]
        other, later, behind = self.other[3][h][k]
        return (colour, other), placed | later << self.shift, self.number_of((after, behind))

    def closing(self, state, place, on):
        """Return the bookmarks and the state of a closing."""
        g, h = self.pairs[state]
        placed, after = self.one[4][g][place][on & self.low]
        later, behind = self.other[4][h][place][on >> self.shift]
        return placed | later << self.shift, self.number_of((after, behind))

    def is_wrong(self, p, told):
        """Return whether the colours of a pair differ."""
        return told[0] != told[1]

    def visit_from(self, value):
        """Return the visit that is written so, or None."""
        if not isinstance(value, tuple) or len(value) != 4 or not self.are_parts(value, 2):
            return None
        g, placed, h, later = value
        return (0, self.number_of((g, h)), placed | later << self.shift)

    def stand_from(self, value):
        """Return the stand that is written so, or None."""
        if not isinstance(value, tuple) or len(value) != 6 or not self.are_parts(value, 3):
            return None
        g, on, taken, h, later_on, later_taken = value
        marks = (on | later_on << self.shift) | (taken | later_taken << self.shift) << self.bits
        return (self.number_of((g, h)), marks)

    def are_parts(self, value, many):
        """Return whether the values are a state and sets for each machine, so many for each."""
        for machine, part in ((self.one, value[:many]), (self.other, value[many:])):
            if not is_index(part[0], len(machine[3])):
                return False
            if not all([is_index(one, 1 << machine[2]) for one in part[1:]]):
                return False
        return True

    def written_visit(self, visit):
        """Return the visit as it is written in a table."""
        _, state, placed = visit
        g, h = self.pairs[state]
        return (g, placed & self.low, h, placed >> self.shift)

    def written_stand(self, state, marks):
        """Return the stand as it is written in a table."""
        on, taken = marks & self.every, marks >> self.bits
        g, h = self.pairs[state]
        return (g, on & self.low, taken & self.low, h, on >> self.shift, taken >> self.shift)
