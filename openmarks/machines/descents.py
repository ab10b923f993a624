"""Descents along a chain, on which machines with too few bookmarks are in equal situations."""

from openmarks.base.checks import check_plain, is_integer
from openmarks.base.labels import tags_down, tags_up
from openmarks.documents.documents import Document
from openmarks.errors import InvalidChain, InvalidNumber, InvalidOperation, TooMany
from openmarks.gaps.levels import pairs_in_chain
from openmarks.machines.machines import (
    begin_of, check_machine_and_query, colours_of_run, opened_on, situation_at)
from openmarks.queries.colouring import is_document_with, states_in
from openmarks.queries.queries import columns_of, least_query

MAX_COUNTS = 5000
MAX_DESCENT = 4900


def check_most(most):
    """Raise InvalidNumber if the value is not an integer of at least 1."""
    if not is_integer(most) or most < 1:
        raise InvalidNumber(most)


def check_chain(least, chain, plain):
    """Raise InvalidChain if the value is not a chain of a least query; return its pairs of states."""
    pairs = pairs_in_chain(least, chain, plain)
    if pairs is None:
        raise InvalidChain("not a chain of the query for these closings")
    return pairs


def are_counts(chain, value):
    """Return whether the value is counts of a chain."""
    if not isinstance(value, tuple) or len(value) != len(chain):
        return False
    return all([is_integer(count) and count >= 1 for count in value])


def length_of(chain, counts):
    """Return the number of labels of a descent."""
    length = 0
    for (down, word, other), count in zip(chain, counts):
        length += len(down) + len(word) + (count - 1) * len(other)
    return length


def check_sizes(chain, most):
    """Raise TooMany if there are too many counts up to a number, or a descent is too long."""
    many = 1
    for _ in chain:
        many = many * most
        if many > MAX_COUNTS:
            raise TooMany(MAX_COUNTS)
    check_length(chain, (most,) * len(chain))


def check_length(chain, counts):
    """Raise TooMany if a descent is too long."""
    if length_of(chain, counts) > MAX_DESCENT:
        raise TooMany(MAX_DESCENT)


def descent_of(chain, counts):
    """Return the descent for counts that were checked."""
    path = []
    for (down, word, other), count in zip(chain, counts):
        path.extend(down + word + other * (count - 1))
    return tuple(path)


def counts_up_to(most, links):
    """Return all counts for so many links with integers up to most, ascending."""
    found = [()]
    for _ in range(links):
        found = [counts + (count,) for counts in found for count in range(1, most + 1)]
    return found


def descent_word(query, chain, counts, *, plain=False):
    """Return the descent for the counts."""
    least = least_query(query)
    check_plain(plain)
    check_chain(least, chain, plain)
    if not are_counts(chain, counts):
        raise InvalidOperation("not an integer of at least 1 for each link")
    check_length(chain, counts)
    return descent_of(chain, counts)


def descents(query, chain, *, most, plain=False):
    """Yield pairs (counts, descent) for all counts with integers up to most, ascending."""
    least = least_query(query)
    check_most(most)
    check_plain(plain)
    check_chain(least, chain, plain)
    check_sizes(chain, most)
    for counts in counts_up_to(most, len(chain)):
        yield counts, descent_of(chain, counts)


def position_behind(machine, position, word):
    """Return the position of a machine behind the openings of a word."""
    columns = columns_of(machine[0])
    for label in word:
        _, position = opened_on(machine, position, columns[label])
    return position


def checked_chain(machine, query, chain):
    """Raise the errors for a machine, a query and a chain; return the least query and the pairs."""
    check_machine_and_query(machine, query)
    least = least_query(query)
    return least, check_chain(least, chain, machine[1])


def situations_on(machine, query, chain, *, most):
    """Return a dict from all counts with integers up to most to the situations on their descents."""
    check_machine_and_query(machine, query)
    check_most(most)
    check_chain(least_query(query), chain, machine[1])
    check_sizes(chain, most)
    found = [((), begin_of(machine))]
    for down, word, other in chain:
        behind = []
        for counts, position in found:
            position = position_behind(machine, position, down + word)
            behind.append((counts + (1,), position))
            for count in range(2, most + 1):
                position = position_behind(machine, position, other)
                behind.append((counts + (count,), position))
        found = behind
    return {counts: situation_at(position) for counts, position in found}


def power(base, many):
    """Return the product of so many numbers that are equal to the base."""
    found = 1
    while many > 0:
        if many & 1:
            found = found * base
        base = base * base
        many = many >> 1
    return found


def enough_counts(machine, query, chain):
    """Return the least integer with more counts up to it than situations, or None."""
    checked_chain(machine, query, chain)
    if machine[2] >= len(chain):
        return None
    # From some integer on, there always are enough counts.
    high = 1
    while not are_enough(machine, chain, high):
        high = high * 2
    low = high // 2
    while low + 1 < high:
        middle = (low + high) // 2
        if are_enough(machine, chain, middle):
            high = middle
        else:
            low = middle
    return high


def are_enough(machine, chain, most):
    """Return whether there are more counts with integers up to most than situations."""
    length = length_of(chain, (most,) * len(chain))
    return power(most, len(chain)) > len(machine[3]) * power(length + 1, machine[2])


def clash_of(machine, query, chain, *, most):
    """Return a clash with integers up to most, or None."""
    firsts = {}
    for counts, situation in situations_on(machine, query, chain, most=most).items():
        if situation in firsts:
            return (firsts[situation], counts)
        firsts[situation] = counts
    return None


def is_clash_of(machine, chain, value):
    """Return whether the value is a clash with descents that are not too long."""
    if not isinstance(value, tuple) or len(value) != 2:
        return False
    if not all([are_counts(chain, counts) for counts in value]) or not value[0] < value[1]:
        return False
    if any([length_of(chain, counts) > MAX_DESCENT for counts in value]):
        return False
    situations = []
    for counts in value:
        position = position_behind(machine, begin_of(machine), descent_of(chain, counts))
        situations.append(situation_at(position))
    return situations[0] == situations[1]


def is_clash(machine, query, chain, value):
    """Return whether the value is a clash with descents that are not too long."""
    checked_chain(machine, query, chain)
    return is_clash_of(machine, chain, value)


def telling_word(least, p, s):
    """Return the shortest word, not empty, that leads two states to unlike colours."""
    labels, _, rows, colours = least
    found = {(p, s): ()}
    order = [(p, s)]
    done = 0
    while True:
        one, other = order[done]
        for label, near, far in zip(labels, rows[one], rows[other]):
            word = found[(one, other)] + (label,)
            if colours[near] != colours[far]:
                return word
            if (near, far) not in found:
                found[(near, far)] = word
                order.append((near, far))
        done += 1


def split_documents(machine, query, chain, clash):
    """Return two documents with unlike colours by the query that the machine does not tell apart."""
    least, pairs = checked_chain(machine, query, chain)
    if not is_clash_of(machine, chain, clash):
        raise InvalidOperation("not a clash of the machine and the chain")
    unlike = max([j for j in range(len(chain)) if clash[0][j] != clash[1][j]])
    fewer = min(clash[0][unlike], clash[1][unlike])
    # Behind these closings, one document is in the first state of the link, the other in the second.
    closed = length_of(chain[unlike + 1:], clash[0][unlike + 1:]) + fewer * len(chain[unlike][1])
    word = telling_word(least, pairs[unlike][0], pairs[unlike][1])
    return tuple([document_on_descent(machine[0], descent_of(chain, counts), closed, word) for counts in clash])


def document_on_descent(labels, path, closed, word):
    """Return the document in which so many nodes of a path are closed, and a word follows."""
    kept = path[:len(path) - closed]
    down = tags_down(labels, path) + tags_up(labels, path[len(kept):])
    return Document.of(down + tags_down(labels, word) + tags_up(labels, kept + word))


def is_split(machine, query, value):
    """Return whether the value is two documents whose last nodes the machine does not tell apart."""
    check_machine_and_query(machine, query)
    if not isinstance(value, tuple) or len(value) != 2:
        return False
    if not all([is_document_with(document, machine[0]) for document in value]):
        return False
    wanted = [query[3][states_in(query, document)[-1]] for document in value]
    told = [colours_of_run(machine, document)[-1] for document in value]
    return wanted[0] != wanted[1] and told[0] == told[1]
