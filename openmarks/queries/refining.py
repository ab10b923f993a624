"""The least states that tell the same values on all paths."""


def reached_states(roots, rows):
    """Return the states to which paths lead, in the order of their first paths."""
    found = {}
    order = []
    for state in roots:
        if state not in found:
            found[state] = True
            order.append(state)
    done = 0
    while done < len(order):
        for state in rows[order[done]]:
            if state not in found:
                found[state] = True
                order.append(state)
        done += 1
    return order


def least_states(roots, rows, values, most):
    """Return the roots, rows and values of the least states, numbered by their first paths.

    Returns None if there are more states than most.
    """
    order = reached_states(roots, rows)
    numbers = {state: k for k, state in enumerate(order)}
    near = [[numbers[state] for state in rows[old]] for old in order]
    classes = classes_of(near, [values[state] for state in order], most)
    if classes is None:
        return None
    # The states are in the order of their first paths, and so are the first ones of the classes.
    places = {}
    firsts = []
    for k, one in enumerate(classes):
        if one not in places:
            places[one] = len(firsts)
            firsts.append(k)
    return (
        tuple([places[classes[numbers[state]]] for state in roots]),
        tuple([tuple([places[classes[k]] for k in near[first]]) for first in firsts]),
        tuple([values[order[first]] for first in firsts]),
    )


def classes_of(rows, values, most):
    """Return the number of a class for each state, equal for states that nothing tells apart.

    Returns None if there are more classes than most. A state is looked at again only
    when a next state came to another class, and the greatest part of a class that is
    split keeps its number; so no state is looked at very often.
    """
    numbers = {}
    classes = [numbers.setdefault(value, len(numbers)) for value in values]
    members = [[] for _ in numbers]
    for state, one in enumerate(classes):
        members[one].append(state)
    sizes = [len(states) for states in members]
    before = states_before(rows)
    looked_at = list(range(len(rows)))
    while looked_at and len(sizes) <= most:
        marked = {}
        for state in split_classes(rows, classes, members, sizes, looked_at):
            for other in before[state]:
                marked[other] = True
        looked_at = list(marked)
    # The last split may make too many, too: nothing is looked at behind it if no state
    # leads to those that it moved.
    return classes if len(sizes) <= most else None


def states_before(rows):
    """Return for each state the states from which some label leads to it."""
    before = [[] for _ in rows]
    for state, row in enumerate(rows):
        for other in row:
            before[other].append(state)
    return before


def split_classes(rows, classes, members, sizes, looked_at):
    """Split the classes by the classes of next states, and return the states that were moved.

    All states of a class that are not looked at have next states in equal classes.
    The members of a class may still name states that were moved out of it.
    """
    groups = {}
    for state in looked_at:
        behind = tuple([classes[other] for other in rows[state]])
        groups.setdefault(classes[state], {}).setdefault(behind, []).append(state)
    moved = []
    for one, parts in groups.items():
        pieces = sorted(list(parts.values()), key=len)
        rest = sizes[one] - sum([len(piece) for piece in pieces])
        if 0 < rest < len(pieces[-1]):
            looked = {state: True for piece in pieces for state in piece}
            pieces = [[k for k in members[one] if classes[k] == one and k not in looked], *pieces]
            rest = 0
        if rest == 0:
            members[one] = pieces.pop()
            rest = len(members[one])
        sizes[one] = rest
        for piece in pieces:
            for state in piece:
                classes[state] = len(sizes)
            members.append(piece)
            sizes.append(len(piece))
            moved.extend(piece)
    return moved
