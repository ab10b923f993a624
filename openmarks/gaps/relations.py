"""How the states of a least query lead to one another, and which of them have gaps.

The part of a state is its ring, or this state alone if it is in no ring.
"""

from math import gcd

from openmarks.queries.queries import state_behind
from openmarks.queries.refining import states_before


class Relations:
    """The parts of the states, each ahead of those to which it leads, and all gaps.

    number has for each state that of its part, rings the rings, and pairs all pairs
    (p, s) for which there is a gap; both are ascending.
    """

    def __init__(self, rows, plain):
        self.parts = parts_of(rows)
        self.number = [0] * len(rows)
        for k, part in enumerate(self.parts):
            for state in part:
                self.number[state] = k
        self.rings = rings_among(rows, self.parts)
        if plain:
            pairs = self.pairs_in_step(rows)
        else:
            pairs = self.pairs_that_meet(rows)
        self.pairs = sorted([(p, s) for p, s in pairs if rows[p] != rows[s]])

    def pairs_that_meet(self, rows):
        """Return all pairs (p, s) which one word leads to one state in the ring of s.

        From this state some word leads to s, and so there is a word that leads both to s.
        """
        before = [states_before([(row[k],) for row in rows]) for k in range(len(rows[0]))]
        found = {(state, state): True for ring in self.rings for state in ring}
        pairs = list(found)
        done = 0
        while done < len(pairs):
            p, s = pairs[done]
            done += 1
            for sources in before:
                others = sources[p]
                for one in sources[s]:
                    if self.number[one] == self.number[s]:
                        for other in others:
                            if (other, one) not in found:
                                found[(other, one)] = True
                                pairs.append((other, one))
        return pairs

    def pairs_in_step(self, rows):
        """Return all pairs (p, s) from which words of one length lead to s.

        The lengths of the words from s to s are multiples of the period of its ring, and
        all great multiples occur. So the length of some word from p to s must be one.
        """
        before = states_before(rows)
        pairs = []
        for ring in self.rings:
            period, phase = phases_in(rows, ring)
            # For each state, the set of the phases at which this length would be 0.
            reached = {state: 1 << phase[state] for state in ring}
            waiting = list(ring)
            while waiting:
                state = waiting.pop()
                behind = reached[state]
                ahead = behind >> 1 | (behind & 1) << (period - 1)
                for other in before[state]:
                    if reached.get(other, 0) | ahead != reached.get(other, 0):
                        reached[other] = reached.get(other, 0) | ahead
                        waiting.append(other)
            pairs.extend([(p, s) for p in reached for s in ring if reached[p] >> phase[s] & 1])
        return pairs


def parts_of(rows):
    """Return the parts, each ahead of those to which it leads, as ascending tuples."""
    before = states_before(rows)
    found = {}
    parts = []
    # The state that is left last is in a part to which no other part leads.
    for start in leaving_order(rows)[::-1]:
        if start in found:
            continue
        found[start] = True
        part = [start]
        done = 0
        while done < len(part):
            for other in before[part[done]]:
                if other not in found:
                    found[other] = True
                    part.append(other)
            done += 1
        parts.append(tuple(sorted(part)))
    return parts


def rings_among(rows, parts):
    """Return the parts that are rings, ascending."""
    return sorted([part for part in parts if len(part) > 1 or part[0] in rows[part[0]]])


def leaving_order(rows):
    """Return all states in the order in which a search in depth is done with them."""
    found = {}
    order = []
    for start in range(len(rows)):
        path = [(start, 0)]
        while path:
            state, turn = path.pop()
            if turn == 0 and state in found:
                continue
            found[state] = True
            if turn < len(rows[state]):
                path.append((state, turn + 1))
                path.append((rows[state][turn], 0))
            else:
                order.append(state)
    return order


def phases_in(rows, ring):
    """Return the period of a ring, and for each of its states the length from the first one.

    Only what the lengths leave divided by the period is told, as they have no more in common.
    """
    lengths = {ring[0]: 0}
    order = [ring[0]]
    inside = {state: True for state in ring}
    period = 0
    done = 0
    while done < len(order):
        state = order[done]
        done += 1
        for other in rows[state]:
            if other in lengths:
                period = gcd(period, lengths[state] + 1 - lengths[other])
            elif other in inside:
                lengths[other] = lengths[state] + 1
                order.append(other)
    return period, {state: lengths[state] % period for state in ring}


def word_between(query, start, goal):
    """Return the shortest word from a state to another, or to it from the roots for None.

    Returns None if there is none.
    """
    labels, roots, rows, _ = query
    steps = {start: None}
    order = [start]
    done = 0
    while done < len(order) and goal not in steps:
        state = order[done]
        done += 1
        for label, other in zip(labels, roots if state is None else rows[state]):
            if other not in steps:
                steps[other] = (state, label)
                order.append(other)
    if goal not in steps:
        return None
    word = []
    while goal != start:
        goal, label = steps[goal]
        word.append(label)
    return tuple(word[::-1])


def meeting_word(query, ring, p, s):
    """Return a word that leads p and s to one state of the ring of s, or None."""
    labels, _, rows, _ = query
    steps = {(p, s): None}
    order = [(p, s)]
    done = 0
    while done < len(order):
        pair = order[done]
        done += 1
        if pair[0] == pair[1]:
            word = []
            while steps[pair] is not None:
                pair, label = steps[pair]
                word.append(label)
            return tuple(word[::-1])
        for label, one, other in zip(labels, rows[pair[0]], rows[pair[1]]):
            if (one, other) not in steps and other in ring:
                steps[(one, other)] = (pair, label)
                order.append((one, other))
    return None


def layer_behind(query, layer, inside):
    """Return the states behind those of a layer, each with a state and a label that lead to it."""
    labels, _, rows, _ = query
    behind = {}
    for state in layer:
        for label, other in zip(labels, rows[state]):
            if other in inside:
                behind.setdefault(other, (state, label))
    return behind


def word_in_layers(layers, state):
    """Return the word that leads through the layers to a state of the last one."""
    word = []
    for layer in layers[:0:-1]:
        state, label = layer[state]
        word.append(label)
    return tuple(word[::-1])


def words_in_step(query, ring, p, s):
    """Return two words of one length that lead p and s to one state of the ring of s.

    There must be such words.
    """
    everywhere = {state: True for state in range(len(query[2]))}
    firsts = [{p: None}]
    seconds = [{s: None}]
    while True:
        for state in firsts[-1]:
            if state in seconds[-1]:
                return word_in_layers(firsts, state), word_in_layers(seconds, state), state
        firsts.append(layer_behind(query, firsts[-1], everywhere))
        seconds.append(layer_behind(query, seconds[-1], ring))


def gap_words(query, relations, p, s, plain):
    """Return the gap between two states that are among the gaps of the relations."""
    ring = {state: True for state in relations.parts[relations.number[s]]}
    if plain:
        word, other, meeting = words_in_step(query, ring, p, s)
    else:
        word = other = meeting_word(query, ring, p, s)
        meeting = state_behind(query, word, p)
    back = word_between(query, meeting, s)
    return (p, word + back, other + back, s)
