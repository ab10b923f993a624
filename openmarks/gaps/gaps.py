"""Which states are the same below, which form rings, and between which there are gaps."""

from openmarks.base.checks import check_index, check_plain, is_index
from openmarks.base.labels import MAX_WORD
from openmarks.gaps.relations import Relations, gap_words, parts_of, rings_among, word_between
from openmarks.queries.queries import least_query, state_behind


def same_below(query, one, other):
    """Return whether each label leads both states to the same state."""
    rows = least_query(query)[2]
    check_index(one, len(rows))
    check_index(other, len(rows))
    return rows[one] == rows[other]


def classes_below(query):
    """Return the largest sets of states that are the same below as one another."""
    rows = least_query(query)[2]
    classes = {}
    for state, row in enumerate(rows):
        classes.setdefault(row, []).append(state)
    return tuple(sorted([tuple(states) for states in classes.values()]))


def rings(query):
    """Return the rings."""
    rows = least_query(query)[2]
    return tuple(rings_among(rows, parts_of(rows)))


def leads_to(query, p, s):
    """Return a word, perhaps empty, that leads from a state to another, or None."""
    least = least_query(query)
    check_index(p, len(least[2]))
    check_index(s, len(least[2]))
    return word_between(least, p, s)


def gap_between(query, p, s, *, plain=False):
    """Return a gap with these two states, or None if there is none."""
    least = least_query(query)
    check_index(p, len(least[2]))
    check_index(s, len(least[2]))
    check_plain(plain)
    relations = Relations(least[2], plain)
    if (p, s) not in relations.pairs:
        return None
    return gap_words(least, relations, p, s, plain)


def is_passed_word(labels, value):
    """Return whether the value is a word of the labels of a query that is short enough to be passed."""
    if not isinstance(value, tuple) or len(value) > MAX_WORD:
        return False
    for label in value:
        if label not in labels:
            return False
    return True


def is_gap_of(least, value, plain):
    """Return whether the value is a gap of a least query."""
    if not isinstance(value, tuple) or len(value) != 4:
        return False
    p, word, other, s = value
    labels, _, rows, _ = least
    if not is_index(p, len(rows)) or not is_index(s, len(rows)) or rows[p] == rows[s]:
        return False
    if not is_passed_word(labels, word) or not is_passed_word(labels, other):
        return False
    if word == () or len(word) != len(other) or not (plain or word == other):
        return False
    return state_behind(least, word, p) == s and state_behind(least, other, s) == s


def is_gap(query, value, *, plain=False):
    """Return whether the value is a gap."""
    least = least_query(query)
    check_plain(plain)
    return is_gap_of(least, value, plain)


def gaps(query, *, plain=False):
    """Yield all pairs of states for which there is a gap, ascending."""
    least = least_query(query)
    check_plain(plain)
    relations = Relations(least[2], plain)
    yield from relations.pairs
