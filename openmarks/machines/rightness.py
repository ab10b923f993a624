"""Whether machines are right for a query, for documents of any size."""

from openmarks.base.streams import MAX_NODES
from openmarks.errors import TooMany
from openmarks.machines.machines import check_machine_and_query, first_wrong
from openmarks.machines.searches import smallest_wrong
from openmarks.machines.tables import Table, is_closed_table
from openmarks.machines.walks import OneMachine
from openmarks.queries.colouring import is_document_with
from openmarks.queries.queries import least_query

MAX_STANDS = 20000


def walk_of(machine, query):
    """Check the arguments, and return the walk of the machine beside the least query."""
    check_machine_and_query(machine, query)
    return OneMachine(machine, least_query(query))


def filled_table(walk):
    """Return the table of a walk."""
    table = Table(walk, MAX_STANDS)
    table.fill()
    if table.many > MAX_STANDS:
        raise TooMany(MAX_STANDS)
    return table


def wrong_document(walk, labels):
    """Return a smallest document on which something wrong is told, as there is one."""
    document = smallest_wrong(walk, labels, MAX_NODES)
    if document is None:
        raise TooMany(MAX_NODES)
    return document


def table_of(machine, query):
    """Return the table of the machine and the query."""
    return filled_table(walk_of(machine, query)).written()


def is_right(machine, query):
    """Return whether the machine is right for the query."""
    return filled_table(walk_of(machine, query)).is_right()


def rightness_paper(machine, query):
    """Return a paper that shows whether the machine is right for the query."""
    walk = walk_of(machine, query)
    table = filled_table(walk)
    if table.is_right():
        return ("right", table.written())
    return ("wrong", wrong_document(walk, machine[0]))


def is_rightness_paper(machine, query, value):
    """Return whether the value is a rightness paper."""
    walk = walk_of(machine, query)
    if not isinstance(value, tuple) or len(value) != 2:
        return False
    form, proof = value
    if form == "wrong":
        return is_document_with(proof, machine[0]) and first_wrong(machine, query, proof) is not None
    return form == "right" and is_closed_table(walk, proof)


def error_document(machine, query):
    """Return a document with as few nodes as possible on which the machine errs, or None."""
    walk = walk_of(machine, query)
    if filled_table(walk).is_right():
        return None
    return wrong_document(walk, machine[0])


def confusions(machine, query):
    """Yield all pairs of the colour of a node and what the machine tells for it, ascending."""
    walk = walk_of(machine, query)
    pairs = [(walk.colours[p], told) for p, told in filled_table(walk).told_pairs()]
    yield from sorted(set(pairs))
