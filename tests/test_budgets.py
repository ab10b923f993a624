import unittest
from inspect import signature
from itertools import combinations, product
from random import Random

from openmarks.errors import InvalidNumber, InvalidOperation, InvalidQuery, TooMany
from openmarks.gaps.levels import is_number_paper, marks_needed, number_paper
from openmarks.queries.budgets import Budget, is_together_paper, marks_together, together_paper
from openmarks.queries.combining import combined
from openmarks.queries.queries import least_query
from samples import (
    AB, BELOW, BOOLEANS, CHILD, EVEN, NOT_PLAIN, NOT_QUERIES, OBJECTS, SAMPLES, TREE, UNDER, WRONG, all_paths,
    check_keeps, check_raises, near_query, plain_state, random_query, with_part)
from test_combining import cycle, every_pair

SOURCE = Random(131)
QUERIES = list(SAMPLES) + [random_query(SOURCE, 5, AB) for _ in range(12)] + [
    near_query(SOURCE, 5, AB, (0, 1)) for _ in range(24)]
TUPLES = [tuple(SOURCE.choice(QUERIES) for _ in range(1 + k % 4)) for k in range(70)]
OTHER = (("a", "c"),) + CHILD[1:]


def all_pairs(queries):
    """One query for the colours of all of them, or None if it has too many states."""
    query = least_query(queries[0])
    names = [query]
    for other in queries[1:]:
        colours = {pair: "" for pair in every_pair(query, other)}
        letters = "abcdefghijklmnopqrstuvwxyz"
        for k, pair in enumerate(colours):
            colours[pair] = letters[k // 676] + letters[k // 26 % 26] + letters[k % 26]
        try:
            query = combined(query, other, colours)
        except TooMany:
            return None
        names.append(other)
    return query


def joint_states(queries):
    leasts = [least_query(query) for query in queries]
    found, new = set(), {tuple(least[1][k] for least in leasts) for k in range(len(leasts[0][0]))}
    while new - found:
        found |= new
        new = {tuple(least[2][p][k] for least, p in zip(leasts, state)) for state in found
               for k in range(len(leasts[0][0]))}
    return sorted(found)


class Form(unittest.TestCase):

    def test_parameters(self):
        wanted = {
            marks_together: "(queries, *, plain=False)", together_paper: "(queries, *, plain=False)",
            is_together_paper: "(queries, value, *, plain=False)", Budget: "(marks, *, plain=False)",
            Budget.fits: "(self, *queries)", Budget.fit: "(self, queries)", Budget.__call__: "(self, query)",
            Budget.choices: "(self, **queries)", Budget.choices_of: "(self, queries)",
        }
        for call, form in wanted.items():
            self.assertEqual((str(signature(call)), call.__module__), (form, "openmarks.queries.budgets"))
        for name in ("marks", "plain"):
            self.assertIsInstance(vars(Budget)[name], property)

    def test_examples(self):
        self.assertEqual(
            [marks_together((CHILD,)), marks_together((CHILD, BELOW)), marks_together((CHILD, UNDER))], [1, 2, None])
        self.assertEqual(Budget(1).choices(x=CHILD, y=BELOW), (("x",), ("y",)))
        self.assertEqual(Budget(2).choices(x=CHILD, y=BELOW), (("x", "y"),))
        self.assertEqual(Budget(2).choices(z=EVEN, u=UNDER), (("z",),))


class Together(unittest.TestCase):
    """[13.1], [13.2]"""

    def test_numbers(self):
        compared = set()
        for queries, plain in product(TUPLES, BOOLEANS):
            number = marks_together(queries, plain=plain)
            query = all_pairs(queries)
            if query is not None:
                self.assertEqual(number, marks_needed(query, plain=plain))
                compared.add((len(queries), number))
            alone = [marks_needed(one, plain=plain) for one in queries]
            if None in alone:
                self.assertIsNone(number)
            else:
                self.assertTrue(max(alone) <= number <= sum(alone))
            self.assertEqual(marks_together(queries[::-1], plain=plain), number)
        self.assertGreaterEqual(compared, {(1, 0), (2, 0), (2, 1), (2, 2), (2, None), (3, 1), (3, 2), (4, 2)})

    def test_papers(self):
        kinds = set()
        for queries, plain in product(TUPLES, BOOLEANS):
            number = marks_together(queries, plain=plain)
            paper = together_paper(queries, plain=plain)
            self.assertIs(is_together_paper(queries, paper, plain=plain), True)
            states = joint_states(queries)
            kinds.add((paper[0], len(queries)))
            if number is None:
                self.assertEqual(paper[0], "turn")
                (p, word, other, s), back = paper[1:]
                self.assertTrue(p in states and s in states)
                leasts = [least_query(query) for query in queries]
                go = lambda state, w: tuple(plain_state(q, w, start=one) for q, one in zip(leasts, state))
                self.assertEqual((go(p, word), go(s, other), go(s, back)), (s, s, p))
                self.assertEqual((len(word), word == other or plain), (len(other), True))
                self.assertNotEqual([go(p, (a,)) for a in AB], [go(s, (a,)) for a in AB])
            else:
                self.assertEqual((paper[0], len(paper[2])), ("number", number))
                self.assertEqual(list(paper[1]), states)
                self.assertLessEqual(set(paper[1].values()), set(range(number + 1)))
        self.assertGreaterEqual(kinds, {(form, many) for form in ("turn", "number") for many in (1, 2, 3)})

    def test_paths(self):
        for queries in TUPLES[::5]:
            leasts = [least_query(query) for query in queries]
            reached = {tuple(plain_state(least, path) for least in leasts) for path in all_paths(AB, 8)}
            self.assertLessEqual(reached, set(joint_states(queries)))

    def test_one_query(self):
        """For one query, the papers are those of stage 7, with tuples of one state."""
        for query, plain in product(QUERIES, BOOLEANS):
            paper = number_paper(query, plain=plain)
            for value in self.near(paper):
                wanted = is_number_paper(query, value, plain=plain)
                self.assertIs(is_together_paper((query,), self.lifted(value), plain=plain), wanted)

    def near(self, paper):
        yield paper
        if paper[0] == "turn":
            (p, word, other, s), back = paper[1:]
            for gap in ((s, word, other, p), (p, other, word, s), (p, word + ("a",), other, s), (p, (), (), s)):
                yield ("turn", gap, back)
            yield ("turn", paper[1], back + ("a",))
            yield ("turn", paper[1], ("c",))
        else:
            for k, level in enumerate(paper[1]):
                for other in (level - 1, level + 1, None, True):
                    yield ("number", with_part(paper[1], other, k), paper[2])
            yield ("number", paper[1], paper[2][1:])
            yield ("number", paper[1], paper[2] + ((("a",), ("a",), ("a",)),))

    def lifted(self, paper):
        if paper[0] == "turn":
            p, word, other, s = paper[1]
            return ("turn", ((p,), word, other, (s,)), paper[2])
        return ("number", {(k,): level for k, level in enumerate(paper[1])}, paper[2])

    def test_wrong_papers(self):
        right = together_paper((CHILD, BELOW))
        told = right[1]
        self.assertIs(is_together_paper((CHILD, BELOW), ("number", dict(reversed(told.items())), right[2])), True)
        first = next(iter(told))
        others = [
            right[:2], right + ((),), list(right), ("turn",) + right[1:], ("Number",) + right[1:],
            ("number", tuple(told.items()), right[2]), ("number", list(told), right[2]), ("number", {}, right[2]),
            ("number", told, ()), ("number", told, list(right[2])), ("number", told, None), (told, "number", right[2]),
            ("number", {**told, (9, 9): 0}, right[2]), ("number", {**told, "x": 0}, right[2]),
            ("number", {**told, first: None}, right[2]), ("number", {**told, first: True}, right[2]),
            ("number", {**told, first: False}, right[2]), ("number", {**told, first: -1}, right[2]),
            ("number", {**told, first: 3}, right[2]), ("number", {**told, first: "0"}, right[2]),
            ("number", {**told, first: [0]}, right[2]), ("number", {**told, first: 10 ** 59}, right[2]),
            ("number", {state: told[state] for state in list(told)[1:]}, right[2]),
            ("number", {**{state: told[state] for state in list(told)[1:]}, (False, 0): told[first]}, right[2]),
            ("number", {**{state: told[state] for state in list(told)[1:]}, first + (0,): told[first]}, right[2]),
            ("number", {**{state: told[state] for state in list(told)[1:]}, None: told[first]}, right[2])]
        self.assertEqual(first, (0, 0))
        for value in others + list(WRONG):
            self.assertIs(is_together_paper((CHILD, BELOW), value), False, value)
        form, gap, back = together_paper((CHILD, UNDER))
        self.assertEqual(form, "turn")
        others = [(form, list(gap), back), (form, gap, list(back)), (form, gap), (form, gap[:3], back), (form, back, gap)]
        for part in (None, True, 0, (), (0,), (0, 0, 0), (9, 9), [0, 0], (None, 0), ([0], 0), (True, True), ("a",), TREE):
            for k in (0, 3):
                if part != gap[k]:
                    others.append((form, with_part(gap, part, k), back))
        others.append((form, with_part(gap, list(gap[0]), 0), back))
        others.append((form, with_part(gap, tuple(bool(x) if x < 2 else x for x in gap[0]), 0), back))
        for value in others:
            self.assertIs(is_together_paper((CHILD, UNDER), value), False, value)
        self.assertIs(is_together_paper((CHILD, UNDER), (form, gap, back)), True)

    def test_other_levels(self):
        """The levels of a paper need not be least, and the chain may be any longest one."""
        query = (AB, (0, 0), ((1, 1), (1, 1)), ("x", "y"))
        for levels in product(range(-1, 3), repeat=2):
            told = {(0,): levels[0], (1,): levels[1]}
            wanted = is_number_paper(query, ("number", levels, ()))
            self.assertIs(is_together_paper((query,), ("number", told, ())), wanted)

    def test_sixty_four(self):
        for sizes, right in (((8, 7), True), ((7, 9), True), ((8, 9), False), ((5, 13), False), ((3, 7, 3), True),
                             ((3, 5, 2, 2), True), ((9, 7, 2), False), ((40, 39), False), ((40,), True),
                             ((5, 7, 9, 11, 13, 8), False), ((40, 20, 8, 5, 4, 2), True)):
            queries = tuple(cycle(many) for many in sizes)
            for plain in BOOLEANS:
                if right:
                    self.assertEqual(marks_together(queries, plain=plain), 0)
                    self.assertIs(is_together_paper(queries, together_paper(queries, plain=plain), plain=plain), True)
                else:
                    check_keeps(self, TooMany, "limit", 64, marks_together, queries, plain=plain)
                    check_keeps(self, TooMany, "limit", 64, together_paper, queries, plain=plain)
                    check_keeps(self, TooMany, "limit", 64, is_together_paper, queries, None, plain=plain)
                    check_keeps(self, TooMany, "limit", 64, Budget(3, plain=plain).fit, queries)
        for sizes, right in (((64 // 2, 2), True), ((5, 12), True), ((8, 8), True), ((5, 13), False)):
            queries = (cycle(sizes[0]), cycle(sizes[1]))
            self.assertEqual(len(joint_states(queries)) <= 64, right)

    def test_just_64(self):
        for loops, right in ((30, True), (31, True), (32, True), (33, False), (34, False)):
            # So many states on which a leads on, with the parity of all labels beside them.
            rows = tuple((min(k + 1, loops - 1), k) for k in range(loops))
            query = (AB, (0, 0), rows, cycle(loops)[3])
            queries = (query, cycle(2))
            found = len(joint_states(queries))
            if found <= 64:
                self.assertEqual(len(together_paper(queries, plain=False)), 3)
            else:
                check_keeps(self, TooMany, "limit", 64, together_paper, queries)
            self.assertEqual(found <= 64, right)


class Errors(unittest.TestCase):

    def test_queries(self):
        calls = (lambda queries, plain: marks_together(queries, plain=plain),
                 lambda queries, plain: together_paper(queries, plain=plain),
                 lambda queries, plain: is_together_paper(queries, None, plain=plain))
        others = list(WRONG) + [(), [CHILD], (CHILD,) * 7, CHILD, (CHILD, None), {"a": CHILD}] + [
            (query,) for query in NOT_QUERIES[::7]] + [(CHILD, query) for query in NOT_QUERIES[::7]] + [
            (CHILD, OTHER, None), (CHILD, OTHER) * 4]
        for call in calls:
            for queries in others:
                check_raises(self, InvalidQuery, call, queries, None)
            for queries in ((CHILD, OTHER), (OTHER, CHILD), (CHILD, BELOW, OTHER)):
                check_raises(self, InvalidOperation, call, queries, None)
            for plain in NOT_PLAIN + OBJECTS:
                check_raises(self, InvalidOperation, call, (CHILD,) * 6, plain)
                check_raises(self, InvalidOperation, call, (cycle(40), cycle(39)), plain)


class Budgets(unittest.TestCase):

    def test_fits(self):
        for queries, plain in product(TUPLES, BOOLEANS):
            number = marks_together(queries, plain=plain)
            for marks in (0, 1, 2, 3, 40):
                budget = Budget(marks, plain=plain)
                wanted = number is not None and number <= marks
                self.assertIs(budget.fits(*queries), wanted)
                self.assertIs(budget.fit(queries), wanted)
                if len(queries) == 1:
                    self.assertIs(budget(queries[0]), wanted)
        for marks in range(41):
            self.assertIs(Budget(marks).fits(), True)
            self.assertIs(Budget(marks).fit(()), True)

    def test_choices(self):
        names = ["x", "y", "zz", "abcdefgh", "b", "self"]
        seen = set()
        for k, plain in product(range(60), BOOLEANS):
            queries = {name: SOURCE.choice(QUERIES) for name in SOURCE.sample(names, k % 7)}
            before = dict(queries)
            if queries and len(joint_states(tuple(queries.values()))) > 64:
                check_keeps(self, TooMany, "limit", 64, Budget(k % 3, plain=plain).choices_of, queries)
                continue
            for marks in (0, 1, 2, 5):
                budget = Budget(marks, plain=plain)
                fitting = [choice for many in range(len(queries) + 1) for choice in combinations(sorted(queries), many)
                           if budget.fit(tuple(queries[name] for name in choice))]
                wanted = tuple(sorted(
                    one for one in fitting if not any(set(one) < set(other) for other in fitting)))
                self.assertEqual(budget.choices_of(queries), wanted)
                if "self" not in queries:
                    self.assertEqual(budget.choices(**queries), wanted)
                seen.add(len(wanted))
            self.assertEqual(queries, before)
        self.assertGreaterEqual(seen, {1, 2})
        self.assertEqual(Budget(3).choices(), ((),))
        self.assertEqual(Budget(3).choices_of({}), ((),))
        self.assertEqual(Budget(3).choices(u=UNDER), ((),))
        self.assertEqual(Budget(0).choices(y=BELOW, x=CHILD), ((),))

    def test_choice_errors(self):
        budget = Budget(1)
        others = [v for v in WRONG if not isinstance(v, dict)] + [
            {"A": CHILD}, {"": CHILD}, {None: CHILD}, {0: CHILD}, {("a",): CHILD}, {"a" * 9: None}, {"+a": None},
            {letter: CHILD for letter in "abcdefg"}, {letter: None for letter in "abcdefg"}, {"a": None, "B": None},
            {True: CHILD}, [("a", CHILD)], (("a", CHILD),)]
        for queries in others:
            check_raises(self, InvalidOperation, budget.choices_of, queries)
        check_raises(self, InvalidOperation, budget.choices, A=CHILD)
        for query in NOT_QUERIES[::7]:
            check_raises(self, InvalidQuery, budget.choices_of, {"a": query})
            check_raises(self, InvalidQuery, budget.choices, x=CHILD, y=query, z=OTHER)
        check_raises(self, InvalidOperation, budget.choices, x=CHILD, y=OTHER)
        check_raises(self, InvalidOperation, budget.choices, x=cycle(40), y=cycle(39), z=OTHER)
        check_keeps(self, TooMany, "limit", 64, budget.choices, x=cycle(40), y=cycle(39))
        check_keeps(self, TooMany, "limit", 64, budget.choices, x=UNDER, y=cycle(40), z=cycle(3))
        self.assertEqual(budget.choices_of({letter: CHILD for letter in "abcdef"}), (tuple("abcdef"),))

    def test_errors(self):
        for marks in [v for v in WRONG if not (type(v) is int and 0 <= v <= 40)] + [41, -1]:
            check_keeps(self, InvalidNumber, "value", marks, Budget, marks, plain=None)
        for plain in NOT_PLAIN + OBJECTS:
            check_raises(self, InvalidOperation, Budget, 3, plain=plain)
        budget = Budget(1)
        for queries in list(v for v in WRONG if v != ()) + [[CHILD], [], {}, CHILD, (CHILD,) * 7, (CHILD, None)]:
            check_raises(self, InvalidQuery, budget.fit, queries)
        for query in NOT_QUERIES[::7]:
            check_raises(self, InvalidQuery, budget, query)
            check_raises(self, InvalidQuery, budget.fits, CHILD, OTHER, query)
        check_raises(self, InvalidQuery, budget.fits, *(CHILD,) * 7)
        check_raises(self, InvalidOperation, budget.fits, CHILD, OTHER)

    def test_object(self):
        made = [Budget(marks, plain=plain) for marks in (0, 1, 2, 40) for plain in BOOLEANS]
        for k, one in enumerate(made):
            for j, other in enumerate(made):
                self.assertIs(one == other, k == j)
                self.assertIs(one != other, k != j)
            for value in WRONG:
                self.assertIs(one == value, False)
            self.assertEqual((type(one.marks), one.plain), (int, BOOLEANS[k % 2]))
            self.assertIs(Budget(one.marks, plain=one.plain) == one, True)
        self.assertEqual(str(Budget(2)), "2 bookmarks, named closings")
        self.assertEqual(str(Budget(1, plain=True)), "1 bookmarks, plain closings")


if __name__ == "__main__":
    unittest.main()
