"""Machines with bookmarks, and runs of them on documents."""

from openmarks.base.checks import check_index, check_plain, is_index
from openmarks.base.labels import check_labels, is_label, is_labels
from openmarks.base.streams import Trail, is_opening
from openmarks.errors import InvalidMachine, InvalidOperation
from openmarks.queries.colouring import check_labels_of, colours_of
from openmarks.queries.queries import check_query

MAX_MARKS = 3
MAX_MACHINE_STATES = 300


def is_opens_row(value, labels, sets, states):
    """Return whether the value has an entry (colour, placed, next) for each of so many labels."""
    if not isinstance(value, tuple) or len(value) != labels:
        return False
    for entry in value:
        if not isinstance(entry, tuple) or len(entry) != 3 or not is_label(entry[0]):
            return False
        if not is_index(entry[1], sets) or not is_index(entry[2], states):
            return False
    return True


def is_closes_row(value, entries, sets, states):
    """Return whether the value has so many entries with a pair (placed, next) for each set."""
    if not isinstance(value, tuple) or len(value) != entries:
        return False
    for entry in value:
        if not isinstance(entry, tuple) or len(entry) != sets:
            return False
        for pair in entry:
            if not isinstance(pair, tuple) or len(pair) != 2:
                return False
            # Written out here, as a machine can have ten thousand pairs.
            placed, after = pair
            if type(placed) is not int or type(after) is not int:
                return False
            if not 0 <= placed < sets or not 0 <= after < states:
                return False
    return True


def is_machine(value):
    """Return whether the value is a machine."""
    if not isinstance(value, tuple) or len(value) != 5:
        return False
    labels, plain, marks, opens, closes = value
    if not is_labels(labels) or not isinstance(plain, bool) or not is_index(marks, MAX_MARKS + 1):
        return False
    if not isinstance(opens, tuple) or not isinstance(closes, tuple):
        return False
    states = len(opens)
    if not 1 <= states <= MAX_MACHINE_STATES or len(closes) != states:
        return False
    sets = 1 << marks
    entries = 1 if plain else len(labels)
    if not all([is_opens_row(row, len(labels), sets, states) for row in opens]):
        return False
    return all([is_closes_row(row, entries, sets, states) for row in closes])


def check_machine(machine):
    """Raise InvalidMachine if the value is not a machine."""
    if not is_machine(machine):
        raise InvalidMachine("not a machine")


def make_machine(labels, opens, closes, *, marks=0, plain=False):
    """Return the machine with these parts."""
    check_labels(labels)
    check_index(marks, MAX_MARKS + 1)
    check_plain(plain)
    machine = (labels, plain, marks, opens, closes)
    check_machine(machine)
    return machine


def columns_of_tags(machine):
    """Return a dict from each tag to the place of its entry in a row of opens or closes."""
    labels, plain, _, _, _ = machine
    trail = Trail(labels, plain)
    columns = {}
    for k, tag in enumerate(trail.closings):
        columns[tag] = k
        columns[trail.closings[tag]] = 0 if plain else k
    return columns


def begin_of(machine):
    """Return the position of a machine that has read nothing.

    A position is a triple: the state, the number of open nodes, and for each bookmark
    the number of open nodes down to the one on which it lies, or None. Unlike heights,
    these stay as they are while other nodes are opened and closed.
    """
    return (0, 0, (None,) * machine[2])


def situation_at(position):
    """Return the situation for a position."""
    state, depth, places = position
    return (state, tuple([None if place is None else depth - place for place in places]))


def placed_at(places, placed, depth, taken):
    """Return the places when the bookmarks of a set were taken, and those of another one put down."""
    put = []
    for place in places:
        if placed & 1:
            put.append(depth)
        else:
            put.append(None if taken & 1 else place)
        placed = placed >> 1
        taken = taken >> 1
    return tuple(put)


def set_at(places, depth):
    """Return the set of the bookmarks that lie on the node at this depth."""
    on = 0
    bit = 1
    for place in places:
        if place == depth:
            on = on | bit
        bit = bit << 1
    return on


def opened_on(machine, position, column):
    """Return the colour that is told at an opening, and the position behind it."""
    state, depth, places = position
    colour, placed, after = machine[3][state][column]
    if placed > 0:
        places = placed_at(places, placed, depth + 1, 0)
    return colour, (after, depth + 1, places)


def closed_on(machine, position, column):
    """Return the position behind a closing."""
    state, depth, places = position
    on = set_at(places, depth) if depth in places else 0
    placed, after = machine[4][state][column][on]
    if depth == 1:
        return (after, 0, (None,) * len(places))
    if placed > 0 or on > 0:
        places = placed_at(places, placed, depth - 1, on)
    return (after, depth - 1, places)


def colours_of_run(machine, document):
    """Return the colours that the machine tells; the arguments were checked."""
    columns = columns_of_tags(machine)
    position = begin_of(machine)
    told = []
    for tag in document.plain_tags if machine[1] else document.tags:
        if is_opening(tag):
            colour, position = opened_on(machine, position, columns[tag])
            told.append(colour)
        else:
            position = closed_on(machine, position, columns[tag])
    return tuple(told)


def situation_after(machine, stream):
    """Return the situation behind the beginning of a stream, or a whole one."""
    run = Run(machine)
    run.take_all(stream)
    return run.situation


def colours_told(machine, document):
    """Return the colours that the machine tells, node by node."""
    check_machine(machine)
    check_labels_of(document, machine[0])
    return colours_of_run(machine, document)


def check_machine_and_query(machine, query):
    """Raise the error for a machine and a query that must have the same labels."""
    check_machine(machine)
    check_query(query)
    if machine[0] != query[0]:
        raise InvalidOperation("the labels of the machine and the query differ")


def first_wrong(machine, query, document):
    """Return the first node whose colour the machine tells wrongly, or None."""
    check_machine_and_query(machine, query)
    wanted = colours_of(query, document)
    for node, told in enumerate(colours_of_run(machine, document)):
        if told != wanted[node]:
            return node
    return None


class Run:
    """A machine while it reads one document.

    The trail has the tags and the nodes, positions the position behind each number of
    tags, told the colour of each node that was opened.
    """

    def __init__(self, machine):
        check_machine(machine)
        self._machine = machine
        self._columns = columns_of_tags(machine)
        self._trail = Trail(machine[0], machine[1])
        self._positions = [begin_of(machine)]
        self._told = []

    def take(self, *tags):
        """Read the tags, and return the colours that are told."""
        return self.take_all(tags)

    def take_all(self, tags):
        """Read a tuple of tags, and return the colours that are told."""
        trail, machine, columns = self._trail, self._machine, self._columns
        before = len(self._told)
        trail.take(tags)
        position = self._positions[-1]
        for tag in tags:
            if is_opening(tag):
                colour, position = opened_on(machine, position, columns[tag])
                self._told.append(colour)
            else:
                position = closed_on(machine, position, columns[tag])
            self._positions.append(position)
        return tuple(self._told[before:])

    def ahead(self, *tags):
        """Return what take returns for the tags, and read nothing."""
        told = self.take_all(tags)
        self.back(len(tags))
        return told

    def __call__(self, tag):
        told = self.take_all((tag,))
        return told[0] if told else None

    def back(self, many=1):
        """Take back the last tags, and return how many are left."""
        left = self._trail.back(many)
        del self._positions[left + 1:]
        del self._told[len(self._trail.opened):]
        return left

    def branch(self):
        """Return an equal run that goes its own way."""
        other = Run(self._machine)
        other._trail = self._trail.branch()
        other._positions = list(self._positions)
        other._told = list(self._told)
        return other

    @property
    def machine(self):
        """The machine that was passed."""
        return self._machine

    @property
    def tags(self):
        """The tags that were read."""
        return tuple(self._trail.seen)

    @property
    def situation(self):
        """The situation behind the tags that were read."""
        return situation_at(self._positions[-1])

    @property
    def told(self):
        """The colours of all nodes so far."""
        return tuple(self._told)

    @property
    def open_word(self):
        """The labels of the open nodes."""
        return self._trail.path()

    @property
    def placed(self):
        """For each bookmark the node on which it lies, or None."""
        _, heights = situation_at(self._positions[-1])
        return tuple([self._trail.node_above(height) for height in heights])

    def __getitem__(self, count):
        check_index(count, len(self._positions))
        return situation_at(self._positions[count])

    def __iter__(self):
        raise TypeError("a run cannot be iterated over")

    def __len__(self):
        return len(self._trail.seen)

    def __bool__(self):
        return bool(self._trail.is_whole())

    def __str__(self):
        return f"run in state {self._positions[-1][0]} after {len(self._trail.seen)} tags"

    def __eq__(self, value):
        if not isinstance(value, Run):
            return False
        return self._machine == value._machine and self._trail.seen == value._trail.seen
