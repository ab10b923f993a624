"""Path queries: their states, paths and colours, least queries, and equal ones."""

from openmarks.base.checks import is_ascending, is_index
from openmarks.base.labels import MAX_WORD, check_word, is_label, is_labels, is_word
from openmarks.errors import (
    InvalidLabels, InvalidNumber, InvalidOperation, InvalidQuery, InvalidWord, TooMany, UnknownName)
from openmarks.queries.refining import least_states

MAX_STATES = 40
MAX_LENGTH = 6


def are_states(value, many, states):
    """Return whether the value is a tuple of so many of the states 0 to states - 1."""
    if not isinstance(value, tuple) or len(value) != many:
        return False
    return all([is_index(state, states) for state in value])


def is_query(value):
    """Return whether the value is a query."""
    if not isinstance(value, tuple) or len(value) != 4:
        return False
    labels, roots, rows, colours = value
    if not is_labels(labels) or not isinstance(colours, tuple) or not isinstance(rows, tuple):
        return False
    states = len(colours)
    if not 1 <= states <= MAX_STATES or len(rows) != states:
        return False
    if not all([is_label(colour) for colour in colours]):
        return False
    return are_states(roots, len(labels), states) and all([are_states(row, len(labels), states) for row in rows])


def check_query(query):
    """Raise InvalidQuery if the value is not a query."""
    if not is_query(query):
        raise InvalidQuery("not a query")


def check_queries(first, second):
    """Raise the error for two queries that must have the same labels."""
    check_query(first)
    check_query(second)
    if first[0] != second[0]:
        raise InvalidOperation("the labels of the queries differ")


def make_query(colours, roots, **moves):
    """Return the query whose labels are the keywords."""
    return query_from(colours, roots, moves)


def query_from(colours, roots, moves):
    """Return the query whose labels are the keys, with a tuple of next states for each."""
    if not isinstance(moves, dict) or not isinstance(colours, tuple):
        raise InvalidQuery("not a tuple of colours and a dict of moves")
    if not all([is_label(label) for label in moves]):
        raise InvalidQuery("a key is not a label")
    labels = tuple(sorted(moves))
    columns = [moves[label] for label in labels]
    if not all([isinstance(column, tuple) and len(column) == len(colours) for column in columns]):
        raise InvalidQuery("the moves are not tuples with an element for each state")
    rows = tuple([tuple([column[state] for column in columns]) for state in range(len(colours))])
    query = (labels, roots, rows, colours)
    check_query(query)
    return query


def columns_of(names):
    """Return a dict from each of the names, such as labels, to its place among them."""
    return {name: k for k, name in enumerate(names)}


def state_behind(query, word, start):
    """Return the state behind a word from a state, or behind a path for None."""
    labels, roots, rows, _ = query
    columns = columns_of(labels)
    state = start
    for label in word:
        row = roots if state is None else rows[state]
        state = row[columns[label]]
    return state


def state_after(query, word, *, start=None):
    """Return the state behind a path, or behind a word from a state."""
    check_query(query)
    check_word(query[0], word)
    if start is None and word == ():
        raise InvalidWord("a path is not empty")
    if start is not None and not is_index(start, len(query[3])):
        raise InvalidNumber(start)
    return state_behind(query, word, start)


def colour_of(query, word, *, start=None):
    """Return the colour of the state that state_after returns."""
    state = state_after(query, word, start=start)
    return query[3][state]


def first_paths(query):
    """Yield a pair of the first path and the state for each reached state, shorter paths first."""
    check_query(query)
    labels, roots, rows, _ = query
    found = {}
    level = [((), roots)]
    while level:
        after = []
        for path, row in level:
            for label, state in zip(labels, row):
                if state not in found:
                    found[state] = True
                    after.append((path + (label,), rows[state]))
                    yield path + (label,), state
        level = after


def paths_with(query, colour, *, longest=3):
    """Yield all paths with the colour and at most so many labels, shorter ones first."""
    check_query(query)
    labels, roots, rows, colours = query
    if colour not in colours:
        raise UnknownName(colour)
    if not is_index(longest, MAX_LENGTH + 1):
        raise InvalidNumber(longest)
    level = [((), roots)]
    for _ in range(longest):
        after = []
        for path, row in level:
            for label, state in zip(labels, row):
                if colours[state] == colour:
                    yield path + (label,)
                after.append((path + (label,), rows[state]))
        level = after


def least_of(labels, roots, rows, colours):
    """Return the least query with the colours of any number of states.

    TooMany is raised if it has more states than a query can have.
    """
    least = least_states(roots, rows, colours, MAX_STATES)
    if least is None:
        raise TooMany(MAX_STATES)
    return (labels,) + least


def least_query(query):
    """Return the least query that gives all paths the same colours."""
    check_query(query)
    labels, roots, rows, colours = query
    return least_of(labels, roots, rows, colours)


def is_least(query):
    """Return whether the query is the least one that gives all paths the same colours."""
    return least_query(query) == query


def pairs_of(first, second):
    """Return a dict from the pairs of states to which paths lead to their first paths.

    It ends with the first pair of states with unlike colours, if there is one.
    """
    labels = first[0]
    found = {}
    level = [((), first[1], second[1])]
    while level:
        after = []
        for path, row, other in level:
            for label, one, two in zip(labels, row, other):
                if (one, two) not in found:
                    found[(one, two)] = path + (label,)
                    if first[3][one] != second[3][two]:
                        return found
                    after.append((path + (label,), first[2][one], second[2][two]))
        level = after
    return found


def are_equal(first, second):
    """Return whether both queries give all paths the same colours."""
    return equality_paper(first, second)[0] == "pairs"


def equality_paper(first, second):
    """Return a paper that shows whether both queries are equal."""
    check_queries(first, second)
    found = pairs_of(first, second)
    for (one, two), path in found.items():
        if first[3][one] != second[3][two]:
            return ("path", path)
    return ("pairs", tuple(sorted(found)))


def is_equality_paper(first, second, value):
    """Return whether the value is an equality paper for both queries."""
    check_queries(first, second)
    if not isinstance(value, tuple) or len(value) != 2:
        return False
    form, proof = value
    if form == "path":
        return is_unlike_path(first, second, proof)
    return form == "pairs" and are_closed_pairs(first, second, proof)


def is_unlike_path(first, second, path):
    """Return whether the value is a path whose colours differ."""
    if not is_word(first[0], path) or not 1 <= len(path) <= MAX_WORD:
        return False
    return first[3][state_behind(first, path, None)] != second[3][state_behind(second, path, None)]


def are_closed_pairs(first, second, pairs):
    """Return whether the value is the pairs of an equality paper."""
    many = (len(first[3]), len(second[3]))
    if not isinstance(pairs, tuple):
        return False
    for pair in pairs:
        if not isinstance(pair, tuple) or len(pair) != 2:
            return False
        if not is_index(pair[0], many[0]) or not is_index(pair[1], many[1]):
            return False
        if first[3][pair[0]] != second[3][pair[1]]:
            return False
    needed = list(zip(first[1], second[1]))
    for one, two in pairs:
        needed.extend(list(zip(first[2][one], second[2][two])))
    known = {pair: True for pair in pairs}
    return is_ascending(pairs) and all([pair in known for pair in needed])


def recoloured(query, **colours):
    """Return the query with the colours that are keywords replaced by their values."""
    return recoloured_by(query, colours)


def recoloured_by(query, colours):
    """Return the query with the colours that are keys replaced by their values."""
    check_query(query)
    labels, roots, rows, old = query
    check_names(colours, old)
    new = tuple([colours.get(colour, colour) for colour in old])
    if not all([is_label(colour) for colour in new]):
        raise InvalidQuery("a new colour is not a colour")
    return (labels, roots, rows, new)


def relabelled(query, **names):
    """Return the query with the labels that are keywords replaced by their values."""
    return relabelled_by(query, names)


def relabelled_by(query, names):
    """Return the query with the labels that are keys replaced by their values."""
    check_query(query)
    old, roots, rows, colours = query
    check_names(names, old)
    new = [names.get(label, label) for label in old]
    if not all([is_label(label) for label in new]) or len(set(new)) < len(new):
        raise InvalidLabels("the new labels are not different labels")
    order = sorted(range(len(new)), key=lambda k: new[k])
    return (
        tuple(sorted(new)),
        tuple([roots[k] for k in order]),
        tuple([tuple([row[k] for k in order]) for row in rows]),
        colours,
    )


def check_names(names, known):
    """Raise the error if the value is not a dict with some of the known names as keys."""
    if not isinstance(names, dict) or not all([isinstance(name, str) for name in names]):
        raise InvalidOperation("not a dict with strings as keys")
    for name in sorted(names):
        if name not in known:
            raise UnknownName(name)
