"""The edits of a desk, its formulas, and the values that they give."""

from openmarks.base.labels import is_label
from openmarks.errors import (
    InvalidEdit, InvalidOperation, InvalidQuery, InvalidWord, TooMany, UnknownName)
from openmarks.queries.combining import combined, underneath
from openmarks.queries.queries import check_query, least_query, recoloured_by

# For each kind of formula, how many names stand ahead of its dict or word.
FORMULAS = {"recolour": 1, "combine": 2, "underneath": 1}
# For each kind of edit, how many elements it has.
EDITS = {"put": 3, "define": 3, "drop": 2, "rename": 3}


def copied(value):
    """Return a copy of a value in which no list and no dict is shared."""
    if isinstance(value, dict):
        return {key: copied(value[key]) for key in value}
    if isinstance(value, list):
        return [copied(part) for part in value]
    if isinstance(value, tuple) and not is_fixed(value):
        return tuple([copied(part) for part in value])
    return value


def is_fixed(value):
    """Return whether no list and no dict is in a tuple, so that it can be shared."""
    return all([
        is_fixed(part) if isinstance(part, tuple) else not isinstance(part, (list, dict))
        for part in value])


def is_formula(value):
    """Return whether the value has the form of a formula."""
    if not isinstance(value, tuple) or not value or not isinstance(value[0], str):
        return False
    many = FORMULAS.get(value[0])
    if many is None or len(value) != many + 2:
        return False
    return all([is_label(name) for name in value[1:-1]])


def is_edit(value):
    """Return whether the value has the form of an edit."""
    if not isinstance(value, tuple) or not value or not isinstance(value[0], str):
        return False
    if len(value) != EDITS.get(value[0]) or not is_label(value[1]):
        return False
    if value[0] == "rename":
        return is_label(value[2])
    return value[0] != "define" or is_formula(value[2])


def needed_by(definition):
    """Return the names whose values a definition needs, none for a query."""
    return definition[1:-1] if isinstance(definition[0], str) else ()


def make_edit(definitions, labels, edit):
    """Make an edit in a dict of definitions."""
    if not is_edit(edit):
        raise InvalidEdit("not an edit")
    kind, name = edit[0], edit[1]
    if kind == "rename" and edit[2] in definitions:
        raise InvalidEdit("the new name has a definition")
    if kind in ("drop", "rename") and name not in definitions:
        raise UnknownName(name)
    if kind == "put":
        check_query(edit[2])
        if edit[2][0] != labels:
            raise InvalidOperation("the query has other labels than the desk")
        definitions[name] = least_query(edit[2])
    elif kind == "define":
        definitions[name] = copied(edit[2])
    elif kind == "drop":
        del definitions[name]
    else:
        rename(definitions, name, edit[2])


def rename(definitions, name, new):
    """Change a name everywhere in a dict of definitions."""
    definitions[new] = definitions.pop(name)
    for other in list(definitions):
        names = needed_by(definitions[other])
        if name in names:
            formula = definitions[other]
            changed = tuple([new if one == name else one for one in names])
            definitions[other] = formula[:1] + changed + formula[-1:]


def shown(definition):
    """Return a definition with a new dict, if it has one, with its keys in order."""
    if isinstance(definition[-1], dict):
        colours = definition[-1]
        return definition[:-1] + ({key: colours[key] for key in sorted(colours)},)
    return definition


def order_of(definitions):
    """Return the names, each behind those that its definition needs."""
    lacking = {}
    users = {name: [] for name in definitions}
    order = []
    for name in definitions:
        names = needed_by(definitions[name])
        lacking[name] = len(names)
        for other in names:
            users[other].append(name)
        if not names:
            order.append(name)
    done = 0
    while done < len(order):
        for name in users[order[done]]:
            lacking[name] -= 1
            if lacking[name] == 0:
                order.append(name)
        done += 1
    if len(order) < len(definitions):
        raise InvalidEdit("a formula needs its own value")
    return order


def worked_out(formula, values):
    """Return the value that a formula gives for the values of the names in it."""
    if formula[0] == "recolour":
        return least_query(recoloured_by(values[formula[1]], formula[2]))
    if formula[0] == "combine":
        return combined(values[formula[1]], values[formula[2]], formula[3])
    return underneath(values[formula[1]], formula[2])


def values_of(definitions, before, known):
    """Return the values of all names; earlier definitions and their values are passed to save work."""
    missing = [other for name in definitions for other in needed_by(definitions[name]) if other not in definitions]
    if missing:
        raise UnknownName(min(missing))
    values = {}
    failed = []
    for name in order_of(definitions):
        definition = definitions[name]
        names = needed_by(definition)
        if not names:
            values[name] = definition
        elif definition == before.get(name) and all([known[other] == values.get(other) for other in names]):
            values[name] = known[name]
        elif all([other in values for other in names]):
            try:
                values[name] = worked_out(definition, values)
            except (InvalidOperation, InvalidQuery, InvalidWord, TooMany, UnknownName):
                failed.append(name)
    if failed:
        # All names in it have values, and so this raises its error again.
        worked_out(definitions[min(failed)], values)
    return values
