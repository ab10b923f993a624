"""Queries made of other queries: of two at once, underneath a word, with labels translated."""

from openmarks.base.labels import MAX_LABELS, check_word, is_label
from openmarks.errors import InvalidLabels, InvalidOperation, UnknownName
from openmarks.queries.queries import check_queries, check_query, columns_of, least_of, state_behind


def are_colours(values):
    """Return whether all values are colours."""
    return all([is_label(value) for value in values])


def are_joint_colours(value):
    """Return whether the value is a dict from pairs of colours to colours."""
    if not isinstance(value, dict) or not are_colours(list(value.values())):
        return False
    return all([isinstance(pair, tuple) and len(pair) == 2 and are_colours(pair) for pair in value])


def joint_rows(roots, tables, most):
    """Return the joint states of several queries and their rows, or None if there are more than most.

    roots and tables have an element for each query. The states are in the order in which
    they are found, and the rows have joint states, like the row of the joint roots.
    """
    begin = list(zip(*roots))
    rows = {}
    waiting = list(begin)
    while waiting:
        state = waiting.pop()
        if state not in rows:
            if len(rows) == most:
                return None
            parts = [table[part] for table, part in zip(tables, state)]
            rows[state] = list(zip(*parts))
            waiting.extend(rows[state])
    return begin, rows


def combined(first, second, colours):
    """Return the query with the colours for the colours by both queries."""
    check_queries(first, second)
    if not are_joint_colours(colours):
        raise InvalidOperation("not a dict from pairs of colours to colours")
    labels, one_roots, one_rows, one_told = first
    _, two_roots, two_rows, two_told = second
    begin, rows = joint_rows((one_roots, two_roots), (one_rows, two_rows), len(one_rows) * len(two_rows))
    told = [(one_told[one], two_told[two]) for one, two in rows]
    if not all([pair in colours for pair in told]):
        raise InvalidOperation("the colours of some path have no colour together")
    numbers = {state: k for k, state in enumerate(rows)}
    return least_of(
        labels,
        tuple([numbers[state] for state in begin]),
        tuple([tuple([numbers[state] for state in row]) for row in rows.values()]),
        tuple([colours[pair] for pair in told]))


def underneath(query, word):
    """Return the query in which a path has the colour of the word followed by this path."""
    check_query(query)
    labels, roots, rows, colours = query
    check_word(labels, word)
    if word != ():
        roots = rows[state_behind(query, word, None)]
    return least_of(labels, roots, rows, colours)


def translated(query, **names):
    """Return the query with other labels, each of which stands for the label that is its value."""
    return translated_by(query, names)


def translated_by(query, names):
    """Return the query whose labels are the keys, each of which stands for its value."""
    check_query(query)
    old, roots, rows, colours = query
    if not isinstance(names, dict) or not 1 <= len(names) <= MAX_LABELS:
        raise InvalidLabels("not a dict with one to four keys")
    if not all([is_label(name) for name in names]):
        raise InvalidLabels("a key is not a label")
    labels = tuple(sorted(names))
    for label in labels:
        if names[label] not in old:
            raise UnknownName(names[label])
    columns = columns_of(old)
    places = [columns[names[label]] for label in labels]
    return least_of(
        labels,
        tuple([roots[k] for k in places]),
        tuple([tuple([row[k] for k in places]) for row in rows]),
        colours)
