"""Chains of gaps, levels of states, and the number of bookmarks that a query needs."""

from openmarks.base.checks import check_index, check_plain, is_index
from openmarks.base.labels import MAX_WORD
from openmarks.errors import InvalidChain, Unlimited
from openmarks.gaps.gaps import is_gap_of, is_passed_word
from openmarks.gaps.relations import Relations, gap_words, word_between
from openmarks.queries.queries import columns_of, least_query, state_behind
from openmarks.queries.refining import states_before


class Study:
    """The relations of a least query, and the levels of its states if there is no turn.

    turn is a pair of states of a gap from which a turn is made, or None. levels has the
    level of each part, and causes what gives it this level: a pair (state, None) of a
    state of this level that leads to the part, or a pair of states that has a gap.
    """

    def __init__(self, least, plain):
        self.least = least
        self.plainly = plain
        self.relations = Relations(least[2], plain)
        self.turn = None
        number = self.relations.number
        # The gap leads from p to s; so words lead back only if both are in one ring.
        for p, s in self.relations.pairs:
            if number[p] == number[s] and self.turn is None:
                self.turn = (p, s)
        self.levels = []
        self.causes = []
        if self.turn is None:
            self.find_levels()

    def find_levels(self):
        """Find the levels of the parts, in an order in which all that matters is known."""
        number = self.relations.number
        before = states_before(self.least[2])
        gaps_to = {}
        for p, s in self.relations.pairs:
            gaps_to.setdefault(s, []).append(p)
        for k, part in enumerate(self.relations.parts):
            level = 0
            cause = None
            for state in part:
                for other in before[state]:
                    if number[other] != k and self.levels[number[other]] > level:
                        level = self.levels[number[other]]
                        cause = (other, None)
                for p in gaps_to.get(state, ()):
                    if self.levels[number[p]] + 1 > level:
                        level = self.levels[number[p]] + 1
                        cause = (p, state)
            self.levels.append(level)
            self.causes.append(cause)

    def level_list(self):
        """Return the tuple of the levels of all states."""
        return tuple([self.levels[k] for k in self.relations.number])

    def gap(self, p, s):
        """Return a gap with these states, which have one."""
        return gap_words(self.least, self.relations, p, s, self.plainly)

    def chain_to(self, state):
        """Return a longest chain that comes to the state."""
        pairs = []
        while self.causes[self.relations.number[state]] is not None:
            state, other = self.causes[self.relations.number[state]]
            if other is not None:
                pairs.append((state, other))
        links = []
        at = None
        for p, s in pairs[::-1]:
            _, word, other, _ = self.gap(p, s)
            links.append((word_between(self.least, at, p), word, other))
            at = s
        return tuple(links)

    def proof(self):
        """Return a number paper."""
        if self.turn is not None:
            p, s = self.turn
            return ("turn", self.gap(p, s), word_between(self.least, s, p))
        told = self.level_list()
        return ("number", told, self.chain_to(told.index(max(told))))


def studied(query, plain):
    """Check the query and the kind of closings, and return the study of the least query."""
    least = least_query(query)
    check_plain(plain)
    return Study(least, plain)


def limited(study):
    """Raise Unlimited if the query has no number."""
    if study.turn is not None:
        raise Unlimited(study.proof())


def pairs_in_chain(least, value, plain):
    """Return the pairs (p, s) of the links of a chain, or None if the value is not a chain."""
    if not isinstance(value, tuple):
        return None
    columns = columns_of(least[0])
    pairs = []
    state = None
    # The link that was last judged behind each state, as links can occur many times.
    judged = {}
    for link in value:
        if state in judged and judged[state][0] == link:
            pair = judged[state][1]
        else:
            pair = pair_of_link(least, columns, link, state, plain)
            if pair is None:
                return None
            judged[state] = (link, pair)
        pairs.append(pair)
        state = pair[1]
    return tuple(pairs)


def pair_of_link(least, columns, link, start, plain):
    """Return the pair (p, s) of a link behind a state, or None if the value is none."""
    if not isinstance(link, tuple) or len(link) != 3:
        return None
    down, word, other = link
    p = state_behind_value(least, columns, down, start)
    if p is None or word == ():
        return None
    s = state_behind_value(least, columns, word, p)
    if s is None or state_behind_value(least, columns, other, s) != s:
        return None
    if least[2][p] == least[2][s] or len(word) != len(other) or not (plain or word == other):
        return None
    return (p, s)


def state_behind_value(least, columns, value, start):
    """Return the state behind a word from a state, or behind a path for None.

    Returns None if the value is not a word that can be passed, or the path is empty.
    """
    if not isinstance(value, tuple) or len(value) > MAX_WORD:
        return None
    labels, roots, rows, _ = least
    state = start
    row = roots if start is None else rows[start]
    for label in value:
        # Other values than labels may have no place in a dict.
        if label not in labels:
            return None
        state = row[columns[label]]
        row = rows[state]
    return state


def is_chain(query, value, *, plain=False):
    """Return whether the value is a chain."""
    least = least_query(query)
    check_plain(plain)
    return pairs_in_chain(least, value, plain) is not None


def is_turn_of(least, value, plain):
    """Return whether the value is a turn of a least query."""
    if not isinstance(value, tuple) or len(value) != 2 or not is_gap_of(least, value[0], plain):
        return False
    (p, _, _, s), back = value
    return is_passed_word(least[0], back) and state_behind(least, back, s) == p


def is_turn(query, value, *, plain=False):
    """Return whether the value is a turn."""
    least = least_query(query)
    check_plain(plain)
    return is_turn_of(least, value, plain)


def chain_states(query, chain, *, plain=False):
    """Return the pair (p, s) of each link."""
    least = least_query(query)
    check_plain(plain)
    pairs = pairs_in_chain(least, chain, plain)
    if pairs is None:
        raise InvalidChain("not a chain of the query for these closings")
    return pairs


def number_paper(query, *, plain=False):
    """Return a number paper."""
    return studied(query, plain).proof()


def are_levels_for(least, value, most, plain):
    """Return whether the value is levels that a number paper with so many links can have."""
    rows = least[2]
    if not isinstance(value, tuple) or len(value) != len(rows):
        return False
    if not all([is_index(level, most + 1) for level in value]):
        return False
    if not all([value[other] >= value[state] for state, row in enumerate(rows) for other in row]):
        return False
    return all([value[s] > value[p] for p, s in Relations(rows, plain).pairs])


def is_number_paper(query, value, *, plain=False):
    """Return whether the value is a number paper."""
    least = least_query(query)
    check_plain(plain)
    if not isinstance(value, tuple) or len(value) != 3:
        return False
    if value[0] == "turn":
        return is_turn_of(least, value[1:], plain)
    if value[0] != "number" or pairs_in_chain(least, value[2], plain) is None:
        return False
    return are_levels_for(least, value[1], len(value[2]), plain)


def marks_needed(query, *, plain=False):
    """Return the number of the query, or None if there is none."""
    study = studied(query, plain)
    return None if study.turn is not None else max(study.levels)


def levels(query, *, plain=False):
    """Return the tuple of the levels of all states."""
    study = studied(query, plain)
    limited(study)
    return study.level_list()


def longest_chain(query, state, *, plain=False):
    """Return a longest chain that comes to the state."""
    least = least_query(query)
    check_index(state, len(least[2]))
    check_plain(plain)
    study = Study(least, plain)
    limited(study)
    return study.chain_to(state)


def rising_labels(query, *, plain=False):
    """Yield all pairs (state, label), ascending, where the label leads to a higher level."""
    study = studied(query, plain)
    limited(study)
    found = study.level_list()
    labels, _, rows, _ = study.least
    for state, row in enumerate(rows):
        for label, other in zip(labels, row):
            if found[other] > found[state]:
                yield (state, label)
