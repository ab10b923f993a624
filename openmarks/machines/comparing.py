"""Machines compared, and machines that tell other colours or run side by side."""

from openmarks.errors import InvalidOperation, TooMany
from openmarks.machines.machines import (
    MAX_MACHINE_STATES, MAX_MARKS, check_machine, colours_of_run)
from openmarks.machines.rightness import filled_table, wrong_document
from openmarks.machines.tables import is_closed_table
from openmarks.machines.walks import TwoMachines
from openmarks.queries.colouring import check_labels_of, is_document_with
from openmarks.queries.combining import are_colours, are_joint_colours


def check_machines(first, second):
    """Raise the error for two machines that must have the same labels and closings."""
    check_machine(first)
    check_machine(second)
    if first[:2] != second[:2]:
        raise InvalidOperation("the labels or the closings of the machines differ")


def same_paper(first, second):
    """Return a paper that shows whether the machines tell the same."""
    check_machines(first, second)
    walk = TwoMachines(first, second)
    table = filled_table(walk)
    if table.is_right():
        return ("same", table.written())
    return ("differ", wrong_document(walk, first[0]))


def is_same_paper(first, second, value):
    """Return whether the value is a same paper."""
    check_machines(first, second)
    if not isinstance(value, tuple) or len(value) != 2:
        return False
    form, proof = value
    if form == "differ":
        return is_document_with(proof, first[0]) and unlike_nodes(first, second, proof) != []
    return form == "same" and is_closed_table(TwoMachines(first, second), proof)


def tell_same(first, second):
    """Return whether the machines tell the same."""
    check_machines(first, second)
    return filled_table(TwoMachines(first, second)).is_right()


def unlike_nodes(first, second, document):
    """Return the triples (node, colour, colour) of the nodes of which different colours are told."""
    told = colours_of_run(first, document)
    others = colours_of_run(second, document)
    return [(node, x, y) for node, (x, y) in enumerate(zip(told, others)) if x != y]


def differences(first, second, document):
    """Yield the triples (node, colour, colour) of the nodes of which different colours are told."""
    check_machines(first, second)
    check_labels_of(document, first[0])
    yield from unlike_nodes(first, second, document)


def recoloured_machine(machine, colours):
    """Return the machine that tells other colours in place of those that are keys."""
    check_machine(machine)
    if not isinstance(colours, dict) or not are_colours(list(colours) + list(colours.values())):
        raise InvalidOperation("not a dict from colours to colours")
    labels, plain, marks, opens, closes = machine
    told = [
        tuple([(colours.get(colour, colour), placed, after) for colour, placed, after in row])
        for row in opens]
    return (labels, plain, marks, tuple(told), closes)


def colours_in(machine):
    """Return the colours in the openings of a machine."""
    return sorted(set([colour for row in machine[3] for colour, _, _ in row]))


def side_by_side(first, second, colours):
    """Return the machine that runs both machines and tells the colours for what they tell."""
    check_machines(first, second)
    if not are_joint_colours(colours):
        raise InvalidOperation("not a dict from pairs of colours to colours")
    others = colours_in(second)
    if not all([(x, y) in colours for x in colours_in(first) for y in others]):
        raise InvalidOperation("the colours of two openings have no colour together")
    if first[2] + second[2] > MAX_MARKS:
        raise TooMany(MAX_MARKS)
    if len(first[3]) * len(second[3]) > MAX_MACHINE_STATES:
        raise TooMany(MAX_MACHINE_STATES)
    opens = [joint_openings(first, second, colours, g, h) for g, h in joint_states(first, second)]
    closes = [joint_closings(first, second, g, h) for g, h in joint_states(first, second)]
    return (first[0], first[1], first[2] + second[2], tuple(opens), tuple(closes))


def joint_states(first, second):
    """Return the pairs of states in the order of their numbers."""
    return [(g, h) for g in range(len(first[3])) for h in range(len(second[3]))]


def joint_openings(first, second, colours, g, h):
    """Return the entries of both machines together for the openings in a pair of states."""
    many = len(second[3])
    return tuple([
        (colours[(x, y)], placed | later << first[2], after * many + behind)
        for (x, placed, after), (y, later, behind) in zip(first[3][g], second[3][h])])


def joint_closings(first, second, g, h):
    """Return the entries of both machines together for the closings in a pair of states."""
    many = len(second[3])
    # The sets of both machines together are ascending if those of the second one come first.
    return tuple([
        tuple([
            (placed | later << first[2], after * many + behind)
            for later, behind in entry for placed, after in other])
        for other, entry in zip(first[4][g], second[4][h])])
