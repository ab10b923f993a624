import unittest
from inspect import isgenerator, signature
from random import Random

from openmarks.errors import InvalidChain, InvalidNumber, InvalidOperation, InvalidQuery, Unlimited
from openmarks.gaps.gaps import gap_between, gaps
from openmarks.gaps.levels import (
    chain_states, is_chain, is_number_paper, is_turn, levels, longest_chain, marks_needed, number_paper, rising_labels)
from openmarks.queries.queries import least_query
from samples import (
    AB, BELOW, BOOLEANS, CHILD, EVEN, NOT_PLAIN, NOT_QUERIES, OBJECTS, SAMPLES, UNDER, WRONG, as_lists, broken,
    check_keeps, check_raises, first_of, plain_state)
from test_gaps import ALL, WIDE, plain_gaps, reached

first_rise = first_of(rising_labels)
LINK = (("b",), ("a", "a"), ("a", "a"))
BOTH = [(query, plain) for query in ALL for plain in BOOLEANS]
# Each state is left by b: with named closings only the last one has gaps, with plain ones all have.
STAIRS = (AB, (0, 1), tuple([(k, min(k + 1, 39)) for k in range(40)]), ("x",) * 39 + ("y",))
# The states are left by a and b in turn: one label leads to the next state and stays in it.
TURNS = (AB, (0, 1), tuple([(k, k + 1) if k < 39 and k % 2 == 0 else (min(k + 1, 39), k) for k in range(40)]),
         ("x",) * 39 + ("y",))


def plain_levels(least, plain):
    """The levels by [7.3], or None if there is a turn; found by trying all chains."""
    rows = least[2]
    found = plain_gaps(least, plain)
    near = [reached(rows, p) | {p} for p in range(len(rows))]
    if any(p in near[s] for p, s in found):
        return None
    best = {}

    def longest(s):
        """The greatest number of links of a chain whose last link ends in s."""
        if s not in best:
            best[s] = max([1 + max([longest(t) for t in ends if p in near[t]], default=0)
                           for p, q in found if q == s])
        return best[s]

    ends = sorted({s for _, s in found})
    return tuple(max([longest(s) for s in ends if q in near[s]], default=0) for q in range(len(rows)))


KNOWN = [(query, plain, plain_levels(least_query(query), plain)) for query, plain in BOTH]
LIMITED = [(query, plain, known) for query, plain, known in KNOWN if known is not None]
UNLIMITED = [(query, plain) for query, plain, known in KNOWN if known is None]


class Form(unittest.TestCase):

    def test_parameters(self):
        wanted = {
            is_chain: "(query, value, *, plain=False)", is_turn: "(query, value, *, plain=False)",
            chain_states: "(query, chain, *, plain=False)", number_paper: "(query, *, plain=False)",
            is_number_paper: "(query, value, *, plain=False)", marks_needed: "(query, *, plain=False)",
            levels: "(query, *, plain=False)", longest_chain: "(query, state, *, plain=False)",
            rising_labels: "(query, *, plain=False)",
        }
        for call, form in wanted.items():
            self.assertEqual(str(signature(call)), form, call)
            self.assertEqual(call.__module__, "openmarks.gaps.levels")
        self.assertTrue(isgenerator(rising_labels(BELOW)))

    def test_examples(self):
        self.assertIs(is_chain(BELOW, (LINK,)), True)
        self.assertIs(is_chain(BELOW, ((("a",), ("a",), ("a",)),)), False)
        self.assertEqual(chain_states(BELOW, ((("b", "b"), ("a", "b"), ("a", "b")),)), ((1, 2),))
        self.assertIs(is_turn(EVEN, ((1, ("a",), ("b",), 0), ("a",)), plain=True), True)
        self.assertEqual((number_paper(BELOW)[0], number_paper(EVEN, plain=True)[0]), ("number", "turn"))
        self.assertIs(is_number_paper(BELOW, ("number", (0, 0, 1), (LINK,))), True)
        self.assertEqual((marks_needed(BELOW), marks_needed(EVEN)), (1, 0))
        self.assertEqual((marks_needed(EVEN, plain=True), marks_needed(UNDER)), (None, None))
        self.assertEqual((levels(CHILD), levels(BELOW)), ((0, 0, 1), (0, 0, 1)))
        self.assertEqual((longest_chain(BELOW, 0), len(longest_chain(BELOW, 2))), ((), 1))
        self.assertEqual(list(rising_labels(BELOW)), [(0, "a"), (0, "b")])
        self.assertEqual(list(rising_labels(CHILD)), [(1, "a"), (1, "b")])

    def test_numbers_of_the_samples(self):
        self.assertEqual([marks_needed(query) for query in SAMPLES], [1, 1, 0, None])
        self.assertEqual([marks_needed(query, plain=True) for query in SAMPLES], [1, 1, None, None])


class Numbers(unittest.TestCase):
    """[0.11], [0.13], [7.2], [7.3], [7.4], compared with a search over all pairs of states."""

    def test_all(self):
        self.assertTrue(len(LIMITED) > 100 and len(UNLIMITED) > 50)
        self.assertTrue({max(known) for _, _, known in LIMITED} >= {0, 1, 2, 3})
        for query, plain, known in LIMITED:
            self.assertEqual((levels(query, plain=plain), marks_needed(query, plain=plain)), (known, max(known)))
            labels, _, rows, _ = least_query(query)
            rises = [(state, label) for state, row in enumerate(rows) for label, other in zip(labels, row)
                     if known[other] > known[state]]
            self.assertEqual(list(rising_labels(query, plain=plain)), rises)
            paper = number_paper(query, plain=plain)
            self.assertEqual((type(paper), paper[0], len(paper[2])), (tuple, "number", max(known)))
            self.assertIs(is_number_paper(query, paper, plain=plain), True)
            self.check_chains(query, plain, known, rows)

    def check_chains(self, query, plain, known, rows):
        for state, level in enumerate(known):
            chain = longest_chain(query, state, plain=plain)
            self.assertEqual(len(chain), level)
            self.check_chain(query, chain, plain)
            if chain:
                pairs = chain_states(query, chain, plain=plain)
                self.assertIn(state, reached(rows, pairs[-1][1]) | {pairs[-1][1]})
                self.assertEqual(len({pairs[0][0]} | {s for _, s in pairs}), level + 1)

    def check_chain(self, query, chain, plain):
        """Check a chain by [0.11] alone."""
        least = least_query(query)
        state, pairs = None, []
        for down, word, other in chain:
            self.assertTrue(down or state is not None)
            p = plain_state(least, down, state)
            state = plain_state(least, word, p)
            self.assertTrue(word and len(word) == len(other) and (plain or word == other))
            self.assertTrue(plain_state(least, other, state) == state and least[2][p] != least[2][state])
            pairs.append((p, state))
        self.assertIs(is_chain(query, chain, plain=plain), True)
        self.assertEqual(chain_states(query, chain, plain=plain), tuple(pairs))

    def test_unlimited(self):
        for query, plain in UNLIMITED:
            least = least_query(query)
            self.assertIsNone(marks_needed(query, plain=plain))
            paper = number_paper(query, plain=plain)
            self.check_turn(query, least, paper, plain)
            for call, values in ((levels, ()), (longest_chain, (0,)), (first_rise, ())):
                error = check_raises(self, Unlimited, call, query, *values, plain=plain)
                self.check_turn(query, least, error.paper, plain)

    def check_turn(self, query, least, paper, plain):
        form, gap, back = paper
        self.assertEqual((type(paper), form), (tuple, "turn"))
        p, word, other, s = gap
        self.check_chain(query, ((leads_from_root(least, p), word, other),), plain)
        self.assertEqual(plain_state(least, back, s), p)
        self.assertIs(is_turn(query, (gap, back), plain=plain), True)
        self.assertIs(is_number_paper(query, paper, plain=plain), True)
        # With a turn there are chains of any length.
        chain = ((leads_from_root(least, p), word, other),) + ((back, word, other),) * 7
        self.assertIs(is_chain(query, chain, plain=plain), True)

    def test_forty_states(self):
        self.assertEqual(marks_needed(STAIRS), 1)
        self.assertEqual(list(gaps(STAIRS)), [(k, 39) for k in range(39)])
        for query, plain in ((STAIRS, True), (TURNS, True), (TURNS, False)):
            self.assertEqual(marks_needed(query, plain=plain), 39)
            self.assertEqual(levels(query, plain=plain), tuple(range(40)))
            chain = longest_chain(query, 39, plain=plain)
            self.assertEqual((len(chain), is_chain(query, chain, plain=plain)), (39, True))
            self.assertEqual(chain_states(query, chain, plain=plain), tuple([(k, k + 1) for k in range(39)]))
            rises = list(rising_labels(query, plain=plain))
            self.assertEqual(rises[:2], [(0, "b"), (1, "b" if query == STAIRS else "a")])
            self.assertEqual((len(rises), rises), (39, sorted(rises)))

    def test_least(self):
        self.assertEqual((levels(WIDE), marks_needed(WIDE)), (levels(BELOW), 1))
        self.assertEqual(list(rising_labels(WIDE)), list(rising_labels(BELOW)))
        self.assertIs(is_number_paper(WIDE, ("number", (0, 0, 1), (LINK,))), True)
        self.assertIs(is_number_paper(WIDE, ("number", (0, 0, 1, 0, 0), (LINK,))), False)
        check_keeps(self, InvalidNumber, "value", 3, longest_chain, WIDE, 3)


def leads_from_root(least, state):
    """The first path of a state, by a plain search."""
    rest = [((label,), p) for label, p in zip(least[0], least[1])]
    while rest:
        word, p = rest.pop(0)
        if p == state:
            return word
        rest += [(word + (label,), q) for label, q in zip(least[0], least[2][p])]


class Chains(unittest.TestCase):

    def test_values(self):
        for plain in BOOLEANS:
            for value in WRONG + (LINK, [LINK], (list(LINK),), as_lists((LINK,)), ((("b",), ("a",)),), (None, LINK)):
                self.assertIs(is_chain(BELOW, value, plain=plain), False, value)
                check_raises(self, InvalidChain, chain_states, BELOW, value, plain=plain)
            self.assertIs(is_chain(BELOW, (), plain=plain), True)
            self.assertEqual(chain_states(BELOW, (), plain=plain), ())
        for value in broken((LINK,), (None, True, 0, 1, "", "a", "c", (), [], {})):
            if value != ():
                self.assertIs(is_chain(BELOW, value), False, value)

    def test_first_down_is_a_path(self):
        # There is no state ahead of a first path, and the next link may begin at once.
        query = (("a", "b"), (0, 1), ((0, 1), (1, 2), (2, 2)), ("x", "y", "z"))
        chain = ((("a",), ("b",), ("b",)),)
        self.assertIs(is_chain(query, ((("a",), ("b", "a"), ("b", "a")),)), False)
        for first in ((), ("a",), ("a", "a")):
            value = ((first, ("b",), ("b",)),)
            self.assertIs(is_chain(STAIRS, value), False)
        steps = ((("a",), ("b", "a"), ("a", "a")), ((), ("b", "a"), ("a", "a")), (("a",), ("b", "a"), ("a", "a")))
        self.assertIs(is_chain(STAIRS, steps, plain=True), True)
        self.assertEqual(chain_states(STAIRS, steps, plain=True), ((0, 1), (1, 2), (2, 3)))
        self.assertIs(is_chain(STAIRS, steps), False)
        self.assertIs(is_chain(STAIRS, steps[1:], plain=True), False)
        self.assertIs(is_chain(query, chain), False)

    def test_of_other_closings(self):
        link = (("a", "a"), ("a",), ("b",))
        self.assertIs(is_chain(EVEN, (link,), plain=True), True)
        self.assertIs(is_chain(EVEN, (link,)), False)
        check_raises(self, InvalidChain, chain_states, EVEN, (link,))
        self.assertEqual(chain_states(EVEN, (link,), plain=True), ((1, 0),))

    def test_long_words(self):
        for many, right in ((5000, True), (5001, False)):
            word = ("a",) * many
            for link in ((("b",), word, word), (("b",) * many, ("a", "a"), ("a", "a"))):
                self.assertIs(is_chain(BELOW, (link,)), right)
        # Many links; each of them has short words.
        turn = number_paper(UNDER)
        first = (leads_from_root(UNDER, turn[1][0]),) + turn[1][1:3]
        chain = (first,) + ((turn[2],) + turn[1][1:3],) * 2000
        self.assertIs(is_chain(UNDER, chain), True)
        self.assertIs(is_chain(UNDER, chain + ((None, None, None),)), False)

    def test_turns(self):
        right = ((1, ("a",), ("b",), 0), ("a",))
        for value in broken(right, (None, True, 0, 1, 2, "", "c", (), [], {})):
            if value != ((1, ("a",), ("b",), 0), ("a",)):
                self.assertIs(is_turn(EVEN, value, plain=True), False, value)
        self.assertIs(is_turn(EVEN, right), False)
        for value in WRONG + (right[0], (right[0],), right + ((),), ("turn",) + right):
            self.assertIs(is_turn(EVEN, value, plain=True), False)
        self.assertIs(is_turn(EVEN, (right[0], ("a",) * 4999), plain=True), True)
        self.assertIs(is_turn(EVEN, (right[0], ("a",) * 5001), plain=True), False)
        self.assertIs(is_turn(EVEN, (right[0], ("b", "a")), plain=True), True)
        self.assertIs(is_turn(EVEN, (right[0], ()), plain=True), False)


class Papers(unittest.TestCase):
    """[7.4]: every correct paper is accepted, and nothing else."""

    def test_levels_judged(self):
        for query, plain in ((STAIRS, True), (TURNS, False)):
            chain = longest_chain(query, 39, plain=plain)
            self.assertIs(is_number_paper(query, ("number", tuple(range(40)), chain), plain=plain), True)
            self.assertIs(is_number_paper(query, ("number", tuple(range(40)), chain[:38]), plain=plain), False)
        self.assertIs(is_number_paper(CHILD, ("number", (0, 1, 1), longest_chain(CHILD, 2))), True)
        self.assertIs(is_number_paper(CHILD, ("number", (0, 0, 1), ())), False)
        for told in [(x, y, z) for x in range(-1, 3) for y in range(-1, 3) for z in range(-1, 3)]:
            # In BELOW the state 0 leads to 2, 1 to 0, and the pair (1, 2) has the gap.
            self.assertIs(is_number_paper(BELOW, ("number", told, (LINK,))), told in ((0, 0, 1), (1, 0, 1)), told)

    def test_all_levels(self):
        for query, plain, known in LIMITED[::7]:
            paper = number_paper(query, plain=plain)
            least = least_query(query)
            pairs = list(gaps(query, plain=plain))
            for k in range(len(known)):
                for level in (known[k] - 1, known[k] + 1):
                    told = known[:k] + (level,) + known[k + 1:]
                    right = all(told[t] >= told[q] for q, row in enumerate(least[2]) for t in row)
                    right = right and all(told[s] > told[p] for p, s in pairs)
                    right = right and 0 <= min(told) and max(told) <= max(known)
                    self.assertIs(is_number_paper(query, ("number", told, paper[2]), plain=plain), right)

    def test_other_values(self):
        paper = ("number", (0, 0, 1), (LINK,))
        for value in broken(paper, (None, True, False, 0, 1, 2, "", "c", (), [], {}, "turn")):
            if repr(value) != repr(("number", (1, 0, 1), (LINK,))):
                self.assertIs(is_number_paper(BELOW, value), False, value)
        turn = number_paper(EVEN, plain=True)
        for value in broken(turn, (None, True, 0, 1, 2, "", "c", (), [], {}, "number")):
            self.assertIs(is_number_paper(EVEN, value, plain=True), False, value)
        for value in WRONG + (turn[1:], paper[1:], turn + ((),), paper[:2], ("turn",), ("number",)):
            for plain in BOOLEANS:
                self.assertIs(is_number_paper(EVEN, value, plain=plain), False)
                self.assertIs(is_number_paper(BELOW, value, plain=plain), False)

    def test_form_and_closings(self):
        self.assertIs(is_number_paper(EVEN, number_paper(EVEN)), True)
        self.assertIs(is_number_paper(EVEN, number_paper(EVEN), plain=True), False)
        self.assertIs(is_number_paper(EVEN, number_paper(EVEN, plain=True)), False)
        self.assertIs(is_number_paper(EVEN, ("number", (0, 0), ())), True)
        self.assertIs(is_number_paper(EVEN, ("number", (0, 1), ()), plain=True), False)
        longer = number_paper(UNDER)
        gap = gap_between(UNDER, longer[1][0], longer[1][3])
        more = (gap[0], gap[1] + gap[2] * 9, gap[2] + gap[2] * 9, gap[3])
        self.assertIs(is_number_paper(UNDER, ("turn", more, longer[2])), True)


class Errors(unittest.TestCase):
    """[0.4], [0.16]"""

    def test_queries(self):
        calls = ((is_chain, (None,)), (is_turn, (None,)), (chain_states, (None,)), (number_paper, ()),
                 (is_number_paper, (None,)), (marks_needed, ()), (levels, ()), (longest_chain, (-1,)), (first_rise, ()))
        for query in NOT_QUERIES[::5]:
            for call, values in calls:
                check_raises(self, InvalidQuery, call, query, *values)
                check_raises(self, InvalidQuery, call, query, *values, plain=None)
        for plain in NOT_PLAIN + OBJECTS:
            for call, values in calls:
                if call is not longest_chain:
                    check_raises(self, InvalidOperation, call, UNDER, *values, plain=plain)
            check_raises(self, InvalidOperation, longest_chain, UNDER, 0, plain=plain)

    def test_states(self):
        for state in [v for v in WRONG if not (type(v) is int and 0 <= v < 4)] + [4, -1]:
            check_keeps(self, InvalidNumber, "value", state, longest_chain, UNDER, state)
            check_keeps(self, InvalidNumber, "value", state, longest_chain, UNDER, state, plain=None)


if __name__ == "__main__":
    unittest.main()
