"""States that tell whether a path fits a pattern.

They are a tuple (roots, rows, fits), like the roots, rows and colours of a query.
"""

from openmarks.errors import TooMany
from openmarks.queries.refining import least_states

# Fewer states than these are not made less: combining them costs less than that.
FEW_STATES = 24


def grown_states(firsts, many, next_key, is_fit):
    """Return the states with these keys of roots, where next_key tells what a label leads to."""
    numbers = {}
    keys = []
    rows = []
    roots = numbers_of(firsts, numbers, keys)
    while len(rows) < len(keys):
        key = keys[len(rows)]
        rows.append(numbers_of([next_key(key, k) for k in range(many)], numbers, keys))
    return (roots, rows, [is_fit(key) for key in keys])


def numbers_of(found, numbers, keys):
    """Return the numbers of the keys; new ones get the next numbers."""
    row = []
    for key in found:
        if key not in numbers:
            numbers[key] = len(keys)
            keys.append(key)
        row.append(numbers[key])
    return row


def path_states(masks, labels):
    """Return the states for a path."""
    length, direct, wide, star, marks = masks
    needed = direct | 1 << length
    behind = [marks.get(label, star) for label in labels]

    def next_key(key, k):
        last = ((key[0] & direct | key[1]) << 1) & behind[k]
        return (last & needed, key[1] | last & wide)

    begin = (1, 1 & wide)
    firsts = [next_key(begin, k) for k in range(len(labels))]
    return grown_states(firsts, len(labels), next_key, lambda key: key[0] >> length == 1)


def counted_states(inner, times, rest):
    """Return the states for the rest that the number of beginnings that fit leaves."""
    roots, rows, fits = inner

    def counted_on(state, many):
        return (state, (many + 1) % times if fits[state] else many)

    def next_key(key, k):
        return counted_on(rows[key[0]][k], key[1])

    firsts = [counted_on(state, 0) for state in roots]
    return grown_states(firsts, len(roots), next_key, lambda key: key[1] == rest)


def paired_states(first, second, is_both):
    """Return the states for both patterns at once; with is_both both must fit, else one."""
    roots, rows, fits = first
    others, lines, marks = second

    def next_key(key, k):
        return (rows[key[0]][k], lines[key[1]][k])

    def is_fit(key):
        if is_both:
            return fits[key[0]] and marks[key[1]]
        return fits[key[0]] or marks[key[1]]

    return grown_states(list(zip(roots, others)), len(roots), next_key, is_fit)


def states_behind(part, inner):
    """Return the states for a part that is made of one inner pattern.

    Where it does not matter any more what follows, there is one last state.
    """
    roots, rows, fits = inner
    if part[0] == "not":
        return (roots, rows, [not fit for fit in fits])
    if part[0] == "counted":
        return counted_states(inner, part[1], part[2])
    end = [len(rows)] * len(roots)
    is_end = [not fit for fit in fits] if part[0] == "unbroken" else fits
    ended = [end if is_end[state] else row for state, row in enumerate(rows)] + [end]
    if part[0] == "below":
        return (roots, ended, [False] * len(rows) + [True])
    return (roots, ended, [*fits, False])


def checked_states(states, most):
    """Return as few states as needed if there are many; TooMany if more than most are needed."""
    roots, rows, fits = states
    if len(rows) <= FEW_STATES:
        return states
    least = least_states(roots, rows, fits, most)
    if least is None:
        raise TooMany(most)
    return least


def states_of(parts, labels, most):
    """Return the states for a pattern; TooMany if one of its parts needs more than most."""
    found = []
    for part in parts:
        if part[0] == "path":
            made = path_states(part[1], labels)
        elif part[0] in ("either", "both"):
            second = found.pop()
            made = paired_states(found.pop(), second, part[0] == "both")
        else:
            made = states_behind(part, found.pop())
        found.append(checked_states(made, most))
    return found.pop()
