import unittest
from inspect import isgenerator, signature
from random import Random

from openmarks.errors import (
    InvalidLabels, InvalidNumber, InvalidOperation, InvalidQuery, InvalidWord, UnknownName)
from openmarks.queries import queries
from openmarks.queries.queries import (
    MAX_STATES, are_equal, colour_of, equality_paper, first_paths, is_equality_paper, is_least, is_query, least_query,
    make_query, paths_with, query_from, recoloured, recoloured_by, relabelled, relabelled_by, state_after)
from samples import (
    AB, BELOW, CHILD, EVEN, FOUR, NOT_QUERIES, NOT_WORDS, SAMPLES, UNDER, WRONG, all_paths, broken, check_keeps,
    check_raises, first_of, plain_colour, plain_state, random_query)

SOME = make_query(("no", "yes"), (1, 0), b=(0, 1), a=(1, 1))
WIDE = make_query(("no", "yes", "yes", "no"), (1, 0), a=(2, 2, 1, 0), b=(0, 1, 2, 1))
SOURCE = Random(30)
RANDOM = [random_query(SOURCE, 6, FOUR[:1 + k % 3]) for k in range(150)]
ALL = list(SAMPLES) + [SOME, WIDE] + RANDOM
FORTY = (("a",), (0,), tuple([(min(k + 1, 39),) for k in range(40)]), ("no",) * 39 + ("yes",))
RING = (("a",), (0,), tuple([((k + 1) % 40,) for k in range(40)]), ("no", "yes") * 20)
first_path, first_with = first_of(first_paths), first_of(paths_with)
WITH_QUERY = (
    (state_after, ((),)), (colour_of, ((),)), (first_path, ()), (first_with, ("pink",)), (least_query, ()),
    (is_least, ()), (recoloured_by, (None,)), (relabelled_by, (None,)), (recoloured, ()), (relabelled, ()))
WITH_TWO = ((are_equal, ()), (equality_paper, ()), (is_equality_paper, (None,)))


def told_apart(query):
    """All pairs of states that some word tells apart, by the plain definition."""
    _, _, rows, colours = query
    states = range(len(colours))
    apart = {(p, q) for p in states for q in states if colours[p] != colours[q]}
    while True:
        more = {(p, q) for p in states for q in states if any(pair in apart for pair in zip(rows[p], rows[q]))}
        if more <= apart:
            return apart
        apart |= more


class Form(unittest.TestCase):

    def test_parameters(self):
        wanted = {
            is_query: "(value)", make_query: "(colours, roots, **moves)", query_from: "(colours, roots, moves)",
            state_after: "(query, word, *, start=None)", colour_of: "(query, word, *, start=None)",
            first_paths: "(query)", paths_with: "(query, colour, *, longest=3)", least_query: "(query)",
            is_least: "(query)", are_equal: "(first, second)", equality_paper: "(first, second)",
            is_equality_paper: "(first, second, value)", recoloured: "(query, **colours)",
            recoloured_by: "(query, colours)", relabelled: "(query, **names)", relabelled_by: "(query, names)",
        }
        for call, form in wanted.items():
            self.assertEqual(str(signature(call)), form, call)
            self.assertEqual(call.__module__, "openmarks.queries.queries")
        self.assertEqual((type(MAX_STATES), MAX_STATES, queries.MAX_STATES), (int, 40, 40))
        self.assertTrue(isgenerator(first_paths(SOME)) and isgenerator(paths_with(SOME, "no")))

    def test_examples(self):
        self.assertEqual(SOME, (("a", "b"), (1, 0), ((1, 0), (1, 1)), ("no", "yes")))
        self.assertEqual((state_after(SOME, ("b", "a", "b")), colour_of(SOME, (), start=0)), (1, "no"))
        self.assertEqual(list(first_paths(SOME)), [(("a",), 1), (("b",), 0)])
        self.assertEqual(list(paths_with(SOME, "no", longest=2)), [("b",), ("b", "b")])
        self.assertEqual(least_query(WIDE), (("a", "b"), (0, 1), ((0, 0), (0, 1)), ("yes", "no")))
        self.assertIs(is_least(SOME), False)
        self.assertEqual(equality_paper(SOME, WIDE), ("pairs", ((0, 0), (1, 1), (1, 2))))
        self.assertEqual(equality_paper(SOME, BELOW), ("path", ("a",)))


class IsQuery(unittest.TestCase):
    """[0.9]"""

    def test_queries(self):
        for query in ALL + [FORTY, RING, (("a",), (0,), ((0,),), ("abcdefgh",))]:
            self.assertIs(is_query(query), True)

    def test_others(self):
        for value in NOT_QUERIES:
            self.assertIs(is_query(value), False, value)
        forty_one = (("a",), (0,), ((0,),) * 41, ("x",) * 41)
        self.assertIs(is_query(forty_one), False)
        self.assertIs(is_query((("a",), (40,)) + FORTY[2:]), False)

    def test_errors_for_a_query(self):
        for query in NOT_QUERIES[::3]:
            for call, values in WITH_QUERY:
                check_raises(self, InvalidQuery, call, query, *values)
            for call, values in WITH_TWO:
                check_raises(self, InvalidQuery, call, query, BELOW, *values)
                check_raises(self, InvalidQuery, call, BELOW, query, *values)
                check_raises(self, InvalidQuery, call, query, (), *values)

    def test_errors_for_other_labels(self):
        other = (("a", "c"),) + BELOW[1:]
        for call, values in WITH_TWO:
            check_raises(self, InvalidOperation, call, BELOW, other, *values)
            check_raises(self, InvalidQuery, call, BELOW, other[:3], *values)


class Making(unittest.TestCase):

    def test_make(self):
        query = make_query(("x", "y", "x"), (2, 1, 0), c=(0, 1, 2), a=(1, 1, 1), b=(2, 0, 2))
        self.assertEqual(query, (("a", "b", "c"), (2, 1, 0), ((1, 2, 0), (1, 0, 1), (1, 2, 2)), ("x", "y", "x")))
        moves = {"roots": (0, 1), "colours": (1, 0)}
        self.assertEqual(
            query_from(("x", "y"), (1, 0), moves), (("colours", "roots"), (1, 0), ((1, 0), (0, 1)), ("x", "y")))
        self.assertEqual(moves, {"roots": (0, 1), "colours": (1, 0)})

    def test_moves(self):
        wrong = [v for v in WRONG if not isinstance(v, dict)] + [
            {}, {"A": (0, 0)}, {0: (0, 0)}, {("a",): (0, 0)}, {None: (0, 0)}, {"a": (0, 0), 1: (0, 0)},
            {"a": (0,)}, {"a": (0, 0, 0)}, {"a": [0, 0]}, {"a": None}, {"a": (0, 2)}, {"a": (0, True)},
            {"a": (0, -1)}, {"a": (0, [])}, {"a": "00"}, {"a": {0: 0, 1: 1}}, {"a": (0, 0), "b": (0, 0)},
            {name: (0, 0) for name in "abcde"}]
        for moves in wrong:
            check_raises(self, InvalidQuery, query_from, ("x", "y"), (0,), moves)
        check_raises(self, InvalidQuery, make_query, ("x", "y"), (0,), A=(0, 0))
        check_raises(self, InvalidQuery, make_query, ("x", "y"), ())

    def test_colours_and_roots(self):
        for value in WRONG + ((), ("x", "Y"), ("x",), ("x", "y", "z"), ["x", "y"], ("x", 0)):
            if value not in (AB, ("z", "a")):
                check_raises(self, InvalidQuery, make_query, value, (0,), a=(0, 0))
        for value in WRONG + ((), (2,), (-1,), (0, 0), [0], ("0",), (True,), (False,)):
            if value != (0,) or isinstance(value[0], bool):
                check_raises(self, InvalidQuery, make_query, ("x", "y"), value, a=(0, 0))

    def test_forty(self):
        self.assertEqual(make_query(FORTY[3], (0,), a=tuple([row[0] for row in FORTY[2]])), FORTY)
        check_raises(self, InvalidQuery, make_query, ("x",) * 41, (0,), a=(0,) * 41)


class Paths(unittest.TestCase):
    """state_after, colour_of, [3.1], paths_with"""

    def test_states_and_colours(self):
        for query in ALL:
            for word in all_paths(query[0], 3):
                state = plain_state(query, word)
                self.assertEqual((state_after(query, word), colour_of(query, word)), (state, query[3][state]))
                for start in range(len(query[3])):
                    state = plain_state(query, word, start)
                    self.assertEqual(state_after(query, word, start=start), state)
                    self.assertEqual(colour_of(query, word, start=start), query[3][state])
                    self.assertEqual(state_after(query, (), start=start), start)

    def test_long_words(self):
        self.assertEqual((state_after(EVEN, ("a",) * 5000), colour_of(EVEN, ("a",) * 4999)), (1, "odd"))
        for call in (state_after, colour_of):
            check_raises(self, InvalidWord, call, EVEN, ("a",) * 5001)
            check_raises(self, InvalidWord, call, EVEN, ("a",) * 5001, start=0)

    def test_wrong_words_and_states(self):
        for call in (state_after, colour_of):
            for word in NOT_WORDS + WRONG:
                if word != AB:
                    check_raises(self, InvalidWord, call, BELOW, word)
                    check_raises(self, InvalidWord, call, BELOW, word, start=9)
            check_raises(self, InvalidWord, call, BELOW, ())
            check_raises(self, InvalidWord, call, BELOW, (), start=None)
            for start in [v for v in WRONG if v is not None and v not in (0, 1) or isinstance(v, bool)] + [3, -1]:
                check_keeps(self, InvalidNumber, "value", start, call, BELOW, (), start=start)
                check_keeps(self, InvalidNumber, "value", start, call, BELOW, ("a",), start=start)

    def test_first_paths(self):
        for query in ALL:
            wanted = {}
            for path in all_paths(query[0], 6):
                wanted.setdefault(plain_state(query, path), path)
            self.assertEqual(list(first_paths(query)), [(path, state) for state, path in wanted.items()])
        self.assertEqual(list(first_paths(FORTY)), [(("a",) * (k + 1), k) for k in range(40)])

    def test_paths_with(self):
        for query in ALL[:60]:
            for colour in sorted(set(query[3])):
                for longest in range(5):
                    wanted = [path for path in all_paths(query[0], longest) if plain_colour(query, path) == colour]
                    self.assertEqual(list(paths_with(query, colour, longest=longest)), wanted)
                wanted = [path for path in all_paths(query[0], 3) if plain_colour(query, path) == colour]
                self.assertEqual(list(paths_with(query, colour)), wanted)
        four = (FOUR, (0,) * 4, ((0,) * 4,), ("x",))
        self.assertEqual(len(list(paths_with(four, "x", longest=6))), 4 + 16 + 64 + 256 + 1024 + 4096)

    def test_paths_with_errors(self):
        for colour in WRONG + ("pink", "", "No"):
            check_keeps(self, UnknownName, "name", colour, first_with, BELOW, colour)
            check_keeps(self, UnknownName, "name", colour, first_with, BELOW, colour, longest=-1)
        for longest in [v for v in WRONG if not (type(v) is int and 0 <= v <= 6)] + [-1, 7]:
            check_keeps(self, InvalidNumber, "value", longest, first_with, BELOW, "no", longest=longest)
        unreached = (("a",), (0,), ((0,), (1,)), ("x", "y"))
        self.assertEqual(list(paths_with(unreached, "y")), [])


class Least(unittest.TestCase):
    """[0.9]"""

    def test_least(self):
        for query in ALL:
            least = least_query(query)
            self.assertIs(is_query(least), True)
            for path in all_paths(query[0], 5):
                self.assertEqual(plain_colour(least, path), plain_colour(query, path))
            states = range(len(least[3]))
            self.assertEqual(told_apart(least), {(p, q) for p in states for q in states if p != q})
            firsts = {}
            for path in all_paths(least[0], 6):
                firsts.setdefault(plain_state(least, path), path)
            self.assertEqual(list(firsts), list(states))
            self.assertIs(is_least(query), query == least)
            self.assertIs(is_least(least), True)

    def test_forty(self):
        self.assertEqual(least_query(FORTY), FORTY)
        self.assertEqual(least_query(RING), (("a",), (0,), ((1,), (0,)), ("no", "yes")))
        one = (("a",), (39,), tuple([(39 - k,) for k in range(40)]), ("x",) * 40)
        self.assertEqual(least_query(one), (("a",), (0,), ((0,),), ("x",)))
        swapped = (AB, (1, 0), ((0, 1), (1, 0)), ("x", "y"))
        self.assertEqual(least_query(swapped), (AB, (0, 1), ((0, 1), (1, 0)), ("y", "x")))


class Equal(unittest.TestCase):
    """[3.2]"""

    def same_labels(self):
        by_labels = {}
        for query in ALL:
            by_labels.setdefault(query[0], []).append(query)
        return [(x, y) for group in by_labels.values() for x in group for y in (group[0], group[-1], least_query(x))]

    def test_papers(self):
        for first, second in self.same_labels():
            paper = equality_paper(first, second)
            differs = [p for p in all_paths(first[0], 5) if plain_colour(first, p) != plain_colour(second, p)]
            equal = least_query(first) == least_query(second)
            self.assertIs(are_equal(first, second), equal)
            self.assertEqual(paper[0], "pairs" if equal else "path")
            if differs:
                self.assertEqual(paper, ("path", differs[0]))
            self.assertIs(is_equality_paper(first, second, paper), True)

    def test_paths_judged(self):
        for path in all_paths(AB, 4):
            differ = plain_colour(BELOW, path) != plain_colour(CHILD, path)
            self.assertIs(is_equality_paper(BELOW, CHILD, ("path", path)), differ)
        long = ("b", "b", "b", "b") + ("a",) * 4996
        self.assertIs(is_equality_paper(BELOW, CHILD, ("path", long)), True)
        self.assertIs(is_equality_paper(BELOW, CHILD, ("path", long + ("a",))), False)
        self.assertIs(is_equality_paper(BELOW, CHILD, ("path", ())), False)

    def test_pairs_judged(self):
        paper = equality_paper(UNDER, UNDER)
        self.assertEqual(paper, ("pairs", ((0, 0), (1, 1), (2, 2), (3, 3))))
        more = tuple(sorted(paper[1] + ((0, 1), (1, 0), (2, 3), (3, 2))))
        for pairs in (paper[1] + ((2, 3),), paper[1][:3], more[:-1], paper[1][::-1], paper[1] + ((3, 3),), (), ((0, 1),)):
            self.assertIs(is_equality_paper(UNDER, UNDER, ("pairs", pairs)), False, pairs)
        unused = (("a",), (0,), ((0,), (1,), (1,)), ("x", "x", "y"))
        for pairs, right in (
                (((0, 0),), True), (((0, 0), (1, 1)), True), (((0, 0), (2, 1)), False), (((1, 1),), False),
                (((0, 0), (1, 0)), True), (((0, 0), (0, 1), (1, 0), (1, 1)), True), (((0, 0), (0, 2)), False)):
            self.assertIs(is_equality_paper(unused, unused, ("pairs", pairs)), right, pairs)

    def test_other_values(self):
        for value in WRONG + (("pairs",), ("path",), (), ("pairs", None), ("path", None), ("pairs", {}), ("path", [])):
            self.assertIs(is_equality_paper(BELOW, CHILD, value), False)
            self.assertIs(is_equality_paper(BELOW, BELOW, value), False)
        right = equality_paper(EVEN, EVEN)
        for value in broken(right, (None, True, False, -1, 2, 10 ** 59, "", (), [], {}, "path", 1, 0)):
            self.assertIs(is_equality_paper(EVEN, EVEN, value), False, value)
        right = ("path", ("b", "a", "a"))
        self.assertIs(is_equality_paper(CHILD, BELOW, right), True)
        for value in broken(right, (None, True, 1, "", "c", (), [], {}, "pairs")):
            if value not in (("path", ("a", "a")), ("path", ("b", "a"))):
                self.assertIs(is_equality_paper(CHILD, BELOW, value), False, value)


class Changed(unittest.TestCase):
    """recoloured, relabelled"""

    def test_recoloured(self):
        self.assertEqual(recoloured(CHILD, yes="no", no="yes")[3], ("yes", "no", "yes"))
        self.assertEqual(recoloured(CHILD, yes="no"), CHILD[:3] + (("no", "no", "no"),))
        self.assertEqual(recoloured(CHILD), CHILD)
        query = recoloured_by(CHILD, {"no": "query"})
        self.assertEqual(query[3], ("query", "yes", "query"))
        self.assertEqual(recoloured_by(query, {"query": "x"})[3], ("x", "yes", "x"))

    def test_recoloured_errors(self):
        not_dicts = [v for v in WRONG if not isinstance(v, dict)]
        for colours in not_dicts + [{0: "a"}, {"no": "x", None: "y"}, {("no",): "x"}, {True: "x"}]:
            check_raises(self, InvalidOperation, recoloured_by, CHILD, colours)
        check_keeps(self, UnknownName, "name", "B", recoloured_by, CHILD, {"no": None, "b": "x", "B": "y", "c": ()})
        check_keeps(self, UnknownName, "name", "maybe", recoloured, CHILD, maybe="x", no="X", zzz="y")
        for colour in WRONG + ("", "X", "abcdefghi"):
            if colour not in ("a", "ab"):
                check_raises(self, InvalidQuery, recoloured_by, CHILD, {"no": colour})
                check_raises(self, InvalidQuery, recoloured, CHILD, no="x", yes=colour)

    def test_relabelled(self):
        three = (("a", "b", "c"), (0, 1, 2), ((0, 1, 2), (2, 1, 0), (1, 0, 2)), ("x", "y", "z"))
        self.assertEqual(
            relabelled(three, a="z"), (("b", "c", "z"), (1, 2, 0), ((1, 2, 0), (1, 0, 2), (0, 2, 1)), ("x", "y", "z")))
        swapped = relabelled_by(three, {"a": "c", "c": "a"})
        self.assertEqual(swapped, (("a", "b", "c"), (2, 1, 0), ((2, 1, 0), (0, 1, 2), (2, 0, 1)), ("x", "y", "z")))
        for path in all_paths(three[0], 4):
            other = tuple({"a": "c", "c": "a", "b": "b"}[label] for label in path)
            self.assertEqual(plain_state(three, path), plain_state(swapped, other))
        self.assertEqual(relabelled(three), three)
        query = relabelled_by(three, {"b": "query"})
        self.assertEqual(query[0], ("a", "c", "query"))
        self.assertEqual(relabelled_by(query, {"query": "b"}), three)

    def test_relabelled_errors(self):
        for names in [v for v in WRONG if not isinstance(v, dict)] + [{0: "a"}, {"a": "x", None: "y"}, {("a",): "x"}]:
            check_raises(self, InvalidOperation, relabelled_by, CHILD, names)
        check_keeps(self, UnknownName, "name", "C", relabelled_by, CHILD, {"a": None, "c": "x", "C": "y"})
        check_keeps(self, UnknownName, "name", "c", relabelled, CHILD, c="x", a="b")
        for label in WRONG + ("", "X", "abcdefghi", "b"):
            if label not in ("a", "ab"):
                check_raises(self, InvalidLabels, relabelled_by, CHILD, {"a": label})
        check_raises(self, InvalidLabels, relabelled, CHILD, a="x", b="x")
        self.assertEqual(relabelled(CHILD, a="b", b="a")[0], AB)


if __name__ == "__main__":
    unittest.main()
