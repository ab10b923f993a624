import unittest
from inspect import signature
from itertools import product
from random import Random

from openmarks.errors import InvalidLabels, InvalidOperation, InvalidQuery, InvalidWord, TooMany, UnknownName
from openmarks.gaps.levels import marks_needed
from openmarks.queries.combining import combined, translated, translated_by, underneath
from openmarks.queries.queries import is_least, least_query
from samples import (
    AB, BELOW, BOOLEANS, CHILD, EVEN, FOUR, NOT_LABELS, NOT_QUERIES, NOT_WORDS, OBJECTS, SAMPLES, TREE, UNDER, WRONG,
    all_paths, check_keeps, check_raises, near_query, plain_colour, random_query)

SOURCE = Random(130)
QUERIES = list(SAMPLES) + [random_query(SOURCE, 6, AB) for _ in range(30)] + [
    near_query(SOURCE, 5, AB, (0, 1)) for _ in range(16)]
PATHS = all_paths(AB, 6)


def cycle(many, labels=AB):
    """A query that counts the labels of a path."""
    colours = tuple("abcdefghij"[k // 10] + "klmnopqrst"[k % 10] for k in range(many))
    return (labels, (0,) * len(labels), tuple(((k + 1) % many,) * len(labels) for k in range(many)), colours)


def every_pair(first, second):
    return {(x, y): x + "q" + y for x, y in product(first[3], second[3])}


class Form(unittest.TestCase):

    def test_parameters(self):
        wanted = {
            combined: "(first, second, colours)", underneath: "(query, word)", translated: "(query, **names)",
            translated_by: "(query, names)",
        }
        for call, form in wanted.items():
            self.assertEqual((str(signature(call)), call.__module__), (form, "openmarks.queries.combining"))

    def test_examples(self):
        self.assertEqual(underneath(BELOW, ("a",)), (AB, (0, 0), ((0, 0),), ("yes",)))
        self.assertEqual(translated(EVEN, x="a", y="a")[1:], ((0, 0), ((1, 1), (0, 0)), ("odd", "even")))


class Combined(unittest.TestCase):

    def test_colours(self):
        for first, second in product(QUERIES[:24], QUERIES[::3]):
            colours = every_pair(first, second)
            before = dict(colours)
            query = combined(first, second, colours)
            self.assertIs(is_least(query), True)
            self.assertEqual(query[0], AB)
            for path in PATHS[::3]:
                x, y = plain_colour(first, path), plain_colour(second, path)
                self.assertEqual(plain_colour(query, path), x + "q" + y)
            self.assertEqual(colours, before)

    def test_pairs(self):
        """Just the pairs of colours of paths are needed."""
        for first, second in product(QUERIES[:20], QUERIES[::5]):
            needed = {(plain_colour(first, path), plain_colour(second, path)) for path in all_paths(AB, 7)}
            query = combined(first, second, {pair: pair[0] + pair[1] for pair in needed})
            more = {pair: "q" for pair in product(("x", "y", "z", "no", "q"), repeat=2)}
            more.update({pair: pair[0] + pair[1] for pair in needed})
            self.assertEqual(combined(first, second, more), query)
            for pair in needed:
                less = {one: "x" for one in more if one != pair}
                check_raises(self, InvalidOperation, combined, first, second, less)

    def test_one_colour(self):
        self.assertEqual(combined(CHILD, EVEN, {pair: "x" for pair in every_pair(CHILD, EVEN)})[3], ("x",))

    def test_errors(self):
        other = (("a", "c"),) + CHILD[1:]
        for query in NOT_QUERIES[::5]:
            check_raises(self, InvalidQuery, combined, query, None, None)
            check_raises(self, InvalidQuery, combined, CHILD, query, None)
            check_raises(self, InvalidQuery, combined, other, query, None)
        check_raises(self, InvalidOperation, combined, CHILD, other, None)
        right = every_pair(CHILD, EVEN)
        others = list(WRONG) + [
            {**right, "x": "y"}, {**right, ("x",): "y"}, {**right, ("x", "y", "z"): "y"}, {**right, ("x", "Y"): "y"},
            {**right, ("x", None): "y"}, {**right, ("x", "y"): "Y"}, {**right, ("x", "y"): None}, {**right, 0: "y"},
            {**right, ("x", "y"): ["y"]}, {**right, ("x", "y"): ""}, list(right), {**right, ("x", 0): "y"}]
        for colours in others:
            check_raises(self, InvalidOperation, combined, CHILD, EVEN, colours)

    def test_too_many(self):
        for one, two in ((5, 8), (40, 1), (40, 40), (3, 13), (6, 7), (41 // 2, 3), (39, 40)):
            first, second = cycle(one), cycle(two)
            numbers = {pair: k for k, pair in enumerate(sorted(every_pair(first, second)))}
            letters = "abcdefghijklmnopqrstuvwxyz"
            colours = {pair: letters[k // 26 // 26] + letters[k // 26 % 26] + letters[k % 26]
                       for pair, k in numbers.items()}
            period = max(k for k in range(1, 1600) if k % one == 0 and k % two == 0 and not any(
                j % one == 0 and j % two == 0 for j in range(1, k)))
            if period > 40:
                check_keeps(self, TooMany, "limit", 40, combined, first, second, colours)
                colours.pop((first[3][0], second[3][0]))
                check_raises(self, InvalidOperation, combined, first, second, colours)
            else:
                self.assertEqual(len(combined(first, second, colours)[3]), period)
        # Many pairs of states, but few colours.
        first, second = cycle(40), cycle(39)
        self.assertEqual(len(combined(first, second, {pair: "x" for pair in every_pair(first, second)})[3]), 1)
        evens = {pair: "xy"[first[3].index(pair[0]) % 2] for pair in every_pair(first, second)}
        self.assertEqual(len(combined(first, second, evens)[3]), 2)

    def test_numbers(self):
        """[13.1]"""
        for first, second in product(QUERIES[:20], QUERIES[4:40:6]):
            try:
                query = combined(first, second, every_pair(first, second))
            except TooMany:
                continue
            for plain in BOOLEANS:
                one, two, both = [marks_needed(each, plain=plain) for each in (first, second, query)]
                if one is None or two is None:
                    self.assertIsNone(both)
                else:
                    self.assertTrue(max(one, two) <= both <= one + two)
                for made in (underneath(first, ("a",)), translated(first, x="b"), translated(first, a="b", b="a")):
                    number = marks_needed(made, plain=plain)
                    self.assertTrue(one is None or number is not None and number <= one)


class Underneath(unittest.TestCase):

    def test_colours(self):
        for query in QUERIES:
            for word in [()] + PATHS[:20]:
                made = underneath(query, word)
                self.assertIs(is_least(made), True)
                for path in PATHS[:40]:
                    self.assertEqual(plain_colour(made, path), plain_colour(query, word + path))
            self.assertEqual(underneath(query, ()), least_query(query))
        self.assertEqual(underneath(EVEN, ("a",) * 4999), underneath(EVEN, ("a",)))

    def test_errors(self):
        for query in NOT_QUERIES[::5]:
            check_raises(self, InvalidQuery, underneath, query, None)
        for word in NOT_WORDS + OBJECTS + (("a",) * 5001, ["a"], (TREE,)):
            check_raises(self, InvalidWord, underneath, BELOW, word)


class Translated(unittest.TestCase):

    def test_colours(self):
        for query in QUERIES:
            for names in ({"a": "a", "b": "b"}, {"a": "b", "b": "a"}, {"x": "a"}, {"x": "a", "y": "a", "z": "b"},
                          {"d": "b", "c": "a", "b": "a", "a": "b"}, {"query": "a", "names": "b"}):
                made = translated_by(query, names)
                labels = tuple(sorted(names))
                self.assertEqual((made[0], is_least(made)), (labels, True))
                for path in all_paths(labels, 4)[::2]:
                    self.assertEqual(plain_colour(made, path), plain_colour(query, tuple(names[n] for n in path)))
                if "query" not in names:
                    self.assertEqual(translated(query, **names), made)
            self.assertEqual(translated(query, a="a", b="b"), least_query(query))

    def test_errors(self):
        for query in NOT_QUERIES[::5]:
            check_raises(self, InvalidQuery, translated_by, query, None)
            check_raises(self, InvalidQuery, translated, query)
        others = [v for v in WRONG if not isinstance(v, dict)] + [
            {}, {"a": "a", "B": "a"}, {"": "a"}, {None: "a"}, {0: "a"}, {("a",): "a"}, {"a" * 9: "a"}, {"+a": "a"},
            {label: "a" for label in "abcde"}, list({"a": "b"}), ("a", "b"), {True: "a"}]
        for names in others:
            check_raises(self, InvalidLabels, translated_by, BELOW, names)
        check_raises(self, InvalidLabels, translated, BELOW)
        check_raises(self, InvalidLabels, translated, BELOW, A="c")
        for value in [v for v in WRONG if v not in ("a", "b")] + [v for v in NOT_LABELS if v not in ("a", "b")]:
            check_keeps(self, UnknownName, "name", value, translated_by, BELOW, {"c": "a", "b": value, "d": "q"})
            check_keeps(self, UnknownName, "name", value, translated, BELOW, z="q", x=value, y="a")
        check_keeps(self, UnknownName, "name", "r", translated, BELOW, b="r", c="q")
        check_raises(self, InvalidLabels, translated, BELOW, b="r", C="q")
        self.assertEqual(len(translated(UNDER, **{label: "a" for label in FOUR})[0]), 4)


if __name__ == "__main__":
    unittest.main()
