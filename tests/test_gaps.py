import unittest
from inspect import isgenerator, signature
from random import Random

from openmarks.errors import InvalidNumber, InvalidOperation, InvalidQuery
from openmarks.gaps.gaps import (
    classes_below, gap_between, gaps, is_gap, leads_to, rings, same_below)
from openmarks.queries.queries import is_query, least_query
from samples import (
    AB, BELOW, BOOLEANS, CHILD, EVEN, FOUR, NOT_PLAIN, NOT_QUERIES, OBJECTS, SAMPLES, UNDER, WRONG, all_paths, broken,
    check_keeps, check_raises, first_of, near_query, plain_state, random_query)

SOURCE = Random(60)
STEPS = ((0, 1), (0, 0, 1, 2), (1, 1, -2), (1, 2, -3, 0), (0, 1, 1, -1))
RANDOM = [random_query(SOURCE, 7, FOUR[:1 + k % 3]) for k in range(60)]
RANDOM += [near_query(SOURCE, SOURCE.randint(2, 8), FOUR[:1 + k % 3], STEPS[k % 5]) for k in range(150)]
ALL = list(SAMPLES) + RANDOM
# Not least: the states 1 and 3 are equal and the state 4 is not reached.
WIDE = (AB, (0, 3), ((2, 2), (0, 1), (2, 2), (0, 3), (4, 4)), ("no", "no", "yes", "no", "yes"))
LINE = (("a",), (0,), tuple([(min(k + 1, 39),) for k in range(40)]), ("x",) * 39 + ("y",))
RING = (("a",), (0,), tuple([((k + 1) % 40,) for k in range(40)]), ("x",) * 39 + ("y",))
first_gap = first_of(gaps)
WITH_STATES = (same_below, leads_to, gap_between)
NOT_STATES = [v for v in WRONG if not (type(v) is int and 0 <= v < 3)] + [3, -1]


def pairs_reached(rows, pair, plain):
    """All pairs to which words of one length that are not empty lead; one word for named closings."""
    found, rest = set(), [pair]
    while rest:
        p, q = rest.pop()
        for after in [(x, y) for x in rows[p] for y in rows[q]] if plain else zip(rows[p], rows[q]):
            if after not in found:
                found.add(after)
                rest.append(after)
    return found


def plain_gaps(query, plain):
    """All pairs with a gap, by [0.10], of a least query."""
    rows = query[2]
    states = range(len(rows))
    return [(p, s) for p in states for s in states
            if rows[p] != rows[s] and (s, s) in pairs_reached(rows, (p, s), plain)]


def reached(rows, state):
    return {p for p, _ in pairs_reached(rows, (state, state), False)}


class Form(unittest.TestCase):

    def test_parameters(self):
        wanted = {
            same_below: "(query, one, other)", classes_below: "(query)", rings: "(query)",
            leads_to: "(query, p, s)", gap_between: "(query, p, s, *, plain=False)",
            is_gap: "(query, value, *, plain=False)", gaps: "(query, *, plain=False)",
        }
        for call, form in wanted.items():
            self.assertEqual(str(signature(call)), form, call)
            self.assertEqual(call.__module__, "openmarks.gaps.gaps")
        self.assertTrue(isgenerator(gaps(BELOW)))

    def test_examples(self):
        self.assertEqual((same_below(CHILD, 1, 2), classes_below(BELOW)), (True, ((0, 2), (1,))))
        self.assertEqual((rings(CHILD), rings(BELOW), rings(EVEN)), (((2,),), ((1,), (2,)), ((0, 1),)))
        self.assertEqual((leads_to(BELOW, 2, 1), gap_between(BELOW, 2, 1)), (None, None))
        self.assertIs(is_gap(BELOW, (1, ("a", "b"), ("a", "b"), 2)), True)
        self.assertIs(is_gap(EVEN, (0, ("a",), ("b",), 1), plain=True), True)
        self.assertEqual((list(gaps(CHILD)), list(gaps(BELOW)), list(gaps(EVEN))), ([(0, 2)], [(1, 2)], []))
        self.assertEqual((list(gaps(EVEN, plain=True)), len(list(gaps(UNDER)))), ([(0, 1), (1, 0)], 8))


class States(unittest.TestCase):
    """[0.10], [6.1], leads_to"""

    def test_all(self):
        for query in ALL:
            rows = least_query(query)[2]
            states = range(len(rows))
            groups = {tuple(q for q in states if rows[q] == rows[p]) for p in states}
            self.assertEqual(classes_below(query), tuple(sorted(groups)))
            near = [reached(rows, p) for p in states]
            circles = {tuple(q for q in states if q in near[p] and p in near[q]) for p in states if p in near[p]}
            self.assertEqual(rings(query), tuple(sorted(circles)))
            for p in states:
                for s in states:
                    self.assertIs(same_below(query, p, s), rows[p] == rows[s])
                    word = leads_to(query, p, s)
                    self.assertEqual(word is not None, p == s or s in near[p])
                    if word is not None:
                        self.assertEqual(plain_state(least_query(query), word, p), s)

    def test_least(self):
        for call in (classes_below, rings):
            self.assertEqual(call(WIDE), call(BELOW))
        for plain in BOOLEANS:
            self.assertEqual(list(gaps(WIDE, plain=plain)), list(gaps(BELOW, plain=plain)))
        for call in WITH_STATES:
            check_keeps(self, InvalidNumber, "value", 3, call, WIDE, 3, 4)
            check_keeps(self, InvalidNumber, "value", 4, call, WIDE, 2, 4)
        self.assertEqual((leads_to(WIDE, 0, 2), same_below(WIDE, 0, 2)), (leads_to(BELOW, 0, 2), True))
        self.assertIs(is_gap(WIDE, (3, ("a",), ("a",), 2)), False)
        self.assertEqual(rings((AB, (0, 0), ((0, 0), (1, 1)), ("x", "y"))), ((0,),))

    def test_forty(self):
        self.assertEqual((rings(LINE), rings(RING)), (((39,),), (tuple(range(40)),)))
        self.assertEqual((leads_to(LINE, 0, 39), leads_to(RING, 5, 4)), (("a",) * 39, ("a",) * 39))
        self.assertEqual((leads_to(LINE, 39, 0), leads_to(LINE, 7, 7)), (None, ()))
        self.assertEqual(classes_below(LINE), tuple([(k,) for k in range(38)]) + ((38, 39),))


class Gaps(unittest.TestCase):
    """[0.10], [6.2]"""

    def test_all(self):
        for query in ALL:
            least = least_query(query)
            for plain in BOOLEANS:
                wanted = plain_gaps(least, plain)
                self.assertEqual(list(gaps(query, plain=plain)), wanted)
                for p in range(len(least[2])):
                    for s in range(len(least[2])):
                        self.check(query, least, p, s, plain, (p, s) in wanted)

    def check(self, query, least, p, s, plain, exists):
        gap = gap_between(query, p, s, plain=plain)
        self.assertEqual(gap is not None, exists)
        if gap is None:
            return
        self.assertEqual((type(gap), gap[0], gap[3], len(gap)), (tuple, p, s, 4))
        self.assertEqual((plain_state(least, gap[1], p), plain_state(least, gap[2], s)), (s, s))
        self.assertTrue(0 < len(gap[1]) == len(gap[2]) and (plain or gap[1] == gap[2]))
        self.assertIs(is_gap(query, gap, plain=plain), True)
        # The word can be longer by any word that leads from s to s.
        more = gap[2] * 3
        self.assertIs(is_gap(query, (p, gap[1] + more, gap[2] + more, s), plain=plain), True)

    def test_all_short_words(self):
        for query in list(SAMPLES) + RANDOM[::9]:
            least = least_query(query)
            words = [()] + all_paths(least[0], 2)
            states = range(len(least[2]))
            for p, s, word, other in [(p, s, w, o) for p in states for s in states for w in words for o in words]:
                right = (len(word) == len(other) > 0 and least[2][p] != least[2][s]
                         and plain_state(least, word, p) == s == plain_state(least, other, s))
                self.assertIs(is_gap(query, (p, word, other, s), plain=True), right)
                self.assertIs(is_gap(query, (p, word, other, s)), right and word == other)

    def test_long_words(self):
        for many, right in ((5000, True), (4999, True), (5001, False)):
            self.assertIs(is_gap(BELOW, (1, ("a",) * many, ("a",) * many, 2)), right)
            word, other = ("a",) * many, ("b",) * many
            self.assertIs(is_gap(BELOW, (1, word, other, 2), plain=True), right)
            self.assertIs(is_gap(BELOW, (1, word, other[1:], 2), plain=True), False)

    def test_far_rings(self):
        # A ring of 19 states that leads into one of 20: both must be gone round often.
        rows = [(k + 1, 0) for k in range(18)] + [(0, 19)] + [(20 + k % 20, 20 + k % 20) for k in range(20)] + [(19, 19)]
        rows[38] = (19, 19)
        rows = rows[:39]
        query = (AB, (0, 0), tuple(rows), ("x",) * 18 + ("z",) + ("y",) * 19 + ("x",))
        self.assertIs(is_query(query), True)
        least = least_query(query)
        for plain in BOOLEANS:
            found = list(gaps(query, plain=plain))
            self.assertEqual(found, plain_gaps(least, plain))
            for p, s in found[::17]:
                self.check(query, least, p, s, plain, True)

    def test_other_values(self):
        right = (1, ("a", "b"), ("a", "b"), 2)
        for value in WRONG:
            for plain in BOOLEANS:
                self.assertIs(is_gap(BELOW, value, plain=plain), False)
        for plain in BOOLEANS:
            for value in broken(right, (None, True, 0, 1, 2, 3, -1, 10 ** 59, "", "c", (), [], {})):
                self.assertIs(is_gap(BELOW, value, plain=plain), False, value)
        self.assertIs(is_gap(BELOW, (True, ("a",), ("a",), 2)), False)
        # The same below.
        self.assertIs(is_gap(CHILD, (1, ("a",), ("a",), 2)), False)
        self.assertIs(is_gap(CHILD, (0, ("a", "a"), ("a", "b"), 2)), False)
        self.assertIs(is_gap(CHILD, (0, ("a", "a"), ("a", "b"), 2), plain=True), True)


class Errors(unittest.TestCase):
    """[0.4], [0.16]"""

    def test_queries(self):
        for query in NOT_QUERIES[::5]:
            for call, values in ((classes_below, ()), (rings, ()), (same_below, (0, -1)), (leads_to, (0, None)),
                                 (gap_between, (-1, 9)), (is_gap, (None,)), (first_gap, ())):
                check_raises(self, InvalidQuery, call, query, *values)
            for call, values in ((gap_between, (-1, 9)), (is_gap, (None,)), (first_gap, ())):
                check_raises(self, InvalidQuery, call, query, *values, plain=None)

    def test_states(self):
        for state in NOT_STATES:
            for call in WITH_STATES:
                check_keeps(self, InvalidNumber, "value", state, call, BELOW, state, 0)
                check_keeps(self, InvalidNumber, "value", state, call, BELOW, 2, state)
                check_keeps(self, InvalidNumber, "value", state, call, BELOW, state, -7)
            check_keeps(self, InvalidNumber, "value", state, gap_between, BELOW, 2, state, plain=None)

    def test_plain(self):
        for plain in NOT_PLAIN + OBJECTS:
            check_raises(self, InvalidOperation, gap_between, BELOW, 0, 0, plain=plain)
            check_raises(self, InvalidOperation, is_gap, BELOW, None, plain=plain)
            check_raises(self, InvalidOperation, first_gap, BELOW, plain=plain)


if __name__ == "__main__":
    unittest.main()
