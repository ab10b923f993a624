"""The bounds for least states, at and just above them, compared with a plain refinement."""

import unittest
from random import Random

from openmarks.desk.desk import Desk
from openmarks.errors import TooMany
from openmarks.queries.automata import states_of
from openmarks.queries.combining import combined, translated_by, underneath
from openmarks.queries.patterns import Path, Pattern
from openmarks.queries.queries import is_least, is_query, least_query
from openmarks.queries.refining import least_states
from samples import AB, FOUR, all_paths, check_keeps, plain_colour

ABC = FOUR[:3]
# More than any pattern has.
NO_BOUND = 10 ** 9


def plain_many(roots, rows, values):
    """How many states are needed: those that are reached, as far as some word tells them apart."""
    reached = set(roots)
    waiting = list(reached)
    while waiting:
        new = set(rows[waiting.pop()]) - reached
        reached |= new
        waiting.extend(new)
    classes = {state: values[state] for state in reached}
    many = 0
    while len(set(classes.values())) > many:
        many = len(set(classes.values()))
        told = {state: (classes[state], tuple(classes[k] for k in rows[state])) for state in reached}
        names = {one: k for k, one in enumerate(set(told.values()))}
        classes = {state: names[told[state]] for state in reached}
    return many


def near_ring(source, labels, many):
    """Roots and rows of states most of which lead to the next one; to some roots nothing leads."""
    rows = [[(k + 1) % many] * labels for k in range(many)]
    for _ in range(source.randint(0, 3)):
        rows[source.randrange(many)][source.randrange(labels)] = source.randrange(many)
    roots = tuple(source.randrange(many) for _ in range(labels))
    return roots, tuple(tuple(row) for row in rows)


def ring_and_root(many):
    """Roots, rows and values of a ring of so many states, and of a root that none of them is like.

    That this root is unlike the others is seen only when all of these are told apart.
    """
    rows = ((2, 1),) + tuple([(k % many + 1,) * 2 for k in range(1, many + 1)])
    return (1, 0), rows, ("x",) * many + ("y",)


def many_of(pattern, labels):
    """How many states a pattern needs."""
    return plain_many(*states_of(pattern._parts, labels, NO_BOUND))


def counted(*times):
    pattern = Path("//*")
    for many in times:
        pattern = pattern.counted(many)
    return pattern


def random_path(source, labels):
    steps = [source.choice(("/", "//")) + source.choice(labels + ("*",)) for _ in range(source.randint(1, 5))]
    return Path(*steps)


class Refining(unittest.TestCase):

    def test_every_bound(self):
        source = Random(200)
        for _ in range(4000):
            roots, rows = near_ring(source, source.randint(1, 3), source.randint(1, 9))
            values = tuple(source.choice("ab") for _ in rows)
            many = plain_many(roots, rows, values)
            for most in range(1, 11):
                least = least_states(roots, rows, values, most)
                if most < many:
                    self.assertIsNone(least, (roots, rows, values, most))
                else:
                    self.assertEqual(len(least[1]), many, (roots, rows, values, most))

    def test_root_alone(self):
        """The last split is that of a root to which no state leads."""
        for many in (2, 3, 5, 39, 40, 41, 200):
            roots, rows, values = ring_and_root(many)
            for firsts in (roots, roots[::-1]):
                self.assertEqual(plain_many(firsts, rows, values), many + 1)
                for most in (1, many - 1, many):
                    self.assertIsNone(least_states(firsts, rows, values, most))
                for most in (many + 1, many + 2, NO_BOUND):
                    self.assertEqual(len(least_states(firsts, rows, values, most)[1]), many + 1)

    def test_first_colours(self):
        """The colours alone tell enough states apart, or too many."""
        for many in (1, 2, 40, 41):
            for most in (1, 2, 40, 41):
                rows = tuple((many - 1,) for _ in range(many))
                least = least_states(tuple(range(many)), rows, tuple(range(many)), most)
                self.assertEqual(least is None, many > most)


class Patterns(unittest.TestCase):
    """[4.1], p.query"""

    def check_query(self, pattern, labels):
        """Check that TooMany(40) is raised just if the result has more states."""
        many = many_of(pattern, labels)
        for one in (pattern, ~pattern, pattern | pattern):
            for yes, no in (("yes", "no"), ("no", "yes")):
                if many > 40:
                    check_keeps(self, TooMany, "limit", 40, one.query, labels, yes=yes, no=no)
                else:
                    query = one.query(labels, yes=yes, no=no)
                    self.assertEqual((len(query[3]), is_query(query), is_least(query)), (many, True, True))
            self.assertEqual(len(one.query(labels, yes="x", no="x")[3]), 1)
        return many

    def test_forty_one(self):
        labels = ("a", "ab", "b", "ba")
        one = Path("/ba", "//ab").counted(3, rest=1)
        other = Path("/*", "/b", "//ba", "//a", "//b", "//ab") | Path("/ba", "//ab", "/ab")
        for pattern in (one | other, ~one & ~other):
            self.assertEqual(self.check_query(pattern, labels), 41)
        for labels, text in (
                (AB, "either (counted 5 1 //b/b/*//*) (both /b//b/*/* (not /a))"),
                (AB, "either (counted 6 1 //*//*/*//*//b) (both //b/b//*//a/* (not //a))"),
                (AB, "either (counted 2 1 /*/a/*//*/a) (both /*//*/a/*/* (not /a//b/*))"),
                (ABC, "either (counted 2 1 /*//c/a//c//b) (both //a/* (not /c/a/c//b//c))"),
                (ABC, "either (counted 4 1 /c//c) (both //b/c/a//c/* (not /a/a//a))"),
                (FOUR, "either (counted 3 1 /d//c) (both //b//c/b/a (not /*/a//d//a))")):
            self.assertEqual(self.check_query(Pattern.read(text), labels), 41)

    def test_near_forty(self):
        source = Random(201)
        found = {}
        while min([found.get(many, 0) for many in (39, 40, 41, 42)]) < 6:
            labels = source.choice((AB, ABC, FOUR))
            parts = [random_path(source, labels) for _ in range(3)]
            pattern = parts[0].counted(source.randint(2, 6), rest=1) | parts[1] & ~parts[2]
            many = many_of(pattern, labels)
            if 38 <= many <= 43 and found.get(many, 0) < 12:
                self.assertEqual(self.check_query(pattern, labels), many)
                found[many] = found.get(many, 0) + 1

    def test_parts_of_two_hundred(self):
        none = Path("/a") & ~Path("/a")
        samples = [(labels, one) for labels in (("a",), AB) for one in (
            counted(2, 4, 5, 5), counted(5, 5) & counted(2, 4))]
        samples += [(labels, Pattern.read(text)) for labels, text in (
            (ABC, "either //a/*//c//*/c (counted 5 4 (counted 4 2 (either /c/b//b//a/* /b//*/b)))"),
            (FOUR, "either (counted 3 1 (either /d//a/a//c /d//a)) (both (counted 5 2 //a//d//*/b//b//b)"
                   " (not /d/b//d//d//b/a))"),
            (AB, "either (counted 4 0 (either (below //b) //b//a//*)) (either (counted 6 0 (counted 5 4"
                 " /b/b/b/a//*//b)) //*//*//b)"))]
        for labels, pattern in samples:
            self.assertEqual(many_of(pattern, labels), 200)
            check_keeps(self, TooMany, "limit", 40, pattern.query, labels)
            for whole in (pattern & none, pattern | ~none, ~pattern & none):
                self.assertEqual(len(whole.query(labels)[3]), 1)

    def test_parts_of_two_hundred_and_one(self):
        none = Path("/a") & ~Path("/a")
        for labels, text in (
                (FOUR, "counted 5 4 (either (counted 6 1 //b/*/d/a//c//b) /a/*//b/*/c)"),
                (ABC, "both (first //c/a/b//b/c) (not (counted 6 2 (counted 6 4 /*/c//b//b//b//c)))"),
                (AB, "both (counted 2 1 (counted 4 1 //*/b//b)) (counted 3 0 (counted 4 3 /b/a//b/a/*))"),
                (ABC, "either (counted 6 4 (counted 2 0 (either //*//b //c/*//*//*/c))) /*/a//*//c//b//c"),
                (AB, "both (not /*) (counted 2 0 (counted 4 0 (counted 5 0 (counted 5 0 //*))))")):
            pattern = Pattern.read(text)
            self.assertEqual(many_of(pattern, labels), 201)
            for one in (pattern, ~pattern, pattern & none, ~(none & pattern), pattern.below() & none):
                check_keeps(self, TooMany, "limit", 200, one.query, labels)
                check_keeps(self, TooMany, "limit", 200, one.query, labels, yes="x", no="x")


class Combined(unittest.TestCase):
    """Stage 13: queries of two others"""

    def pairs(self):
        """Pairs of queries, colours for them, and how many states they need together, near forty."""
        source = Random(202)
        found = {}
        while min([found.get(many, 0) for many in (39, 40, 41, 42)]) < 10:
            first, second = [
                (AB, *near_ring(source, 2, source.randint(6, 8)), tuple(source.choice("ab") for _ in range(8)))
                for _ in range(2)]
            first, second = [query[:3] + (query[3][:len(query[2])],) for query in (first, second)]
            colours = {(x, y): source.choice("ab") for x in "ab" for y in "ab"}
            roots = tuple(zip(first[1], second[1]))
            both = [(one, two) for one in range(len(first[3])) for two in range(len(second[3]))]
            rows = {(one, two): tuple(zip(first[2][one], second[2][two])) for one, two in both}
            many = plain_many(roots, rows, {
                (one, two): colours[(first[3][one], second[3][two])] for one, two in both})
            if 38 <= many <= 43 and found.get(many, 0) < 40:
                found[many] = found.get(many, 0) + 1
                yield first, second, colours, many

    def test_near_forty(self):
        for first, second, colours, many in self.pairs():
            desk = Desk(AB)
            desk.apply(("put", "first", first), ("put", "second", second))
            formula = ("define", "both", ("combine", "first", "second", colours))
            if many > 40:
                check_keeps(self, TooMany, "limit", 40, combined, first, second, colours)
                check_keeps(self, TooMany, "limit", 40, desk.apply, formula)
                self.assertEqual((desk.names, len(desk.log())), (("first", "second"), 1))
                continue
            query = combined(first, second, colours)
            self.assertEqual((len(query[3]), is_query(query), is_least(query)), (many, True, True))
            for path in all_paths(AB, 5):
                wanted = colours[(plain_colour(first, path), plain_colour(second, path))]
                self.assertEqual(plain_colour(query, path), wanted)
            desk.apply(formula)
            self.assertEqual(desk["both"], query)

    def check_forty_one(self, first, second, colours):
        """Check that both queries together need forty-one states, and what is raised then."""
        both = [(one, two) for one in range(len(first[3])) for two in range(len(second[3]))]
        self.assertEqual(41, plain_many(
            tuple(zip(first[1], second[1])),
            {(one, two): tuple(zip(first[2][one], second[2][two])) for one, two in both},
            {(one, two): colours[(first[3][one], second[3][two])] for one, two in both}))
        check_keeps(self, TooMany, "limit", 40, combined, first, second, colours)
        turned = {(y, x): colours[(x, y)] for x, y in colours}
        check_keeps(self, TooMany, "limit", 40, combined, second, first, turned)
        desk = Desk(AB)
        edits = (
            ("put", "one", first), ("put", "two", second), ("define", "both", ("combine", "one", "two", colours)))
        check_keeps(self, TooMany, "limit", 40, desk.apply_all, edits)
        self.assertEqual((desk.names, desk.log()), ((), ()))

    def test_forty_one(self):
        self.check_forty_one(
            (AB, (1, 2), ((4, 1), (2, 2), (3, 3), (4, 4), (5, 5), (6, 6), (0, 0)), tuple("bbaaabb")),
            (AB, (2, 4), ((1, 1), (3, 2), (3, 1), (4, 4), (5, 5), (6, 6), (0, 0)), tuple("baaaabb")),
            {("a", "a"): "a", ("a", "b"): "a", ("b", "a"): "b", ("b", "b"): "a"})
        self.check_forty_one(
            (AB, (3, 1), ((1, 1), (2, 2), (3, 3), (4, 4), (5, 5), (6, 6), (0, 6)), tuple("babbaaa")),
            (AB, (1, 0), ((1, 1), (2, 2), (3, 3), (4, 4), (2, 5), (0, 0)), tuple("babbbb")),
            {("a", "a"): "b", ("a", "b"): "a", ("b", "a"): "b", ("b", "b"): "b"})
        self.check_forty_one(
            (AB, (4, 4), ((1, 1), (2, 2), (3, 3), (4, 3), (5, 5), (0, 0)), tuple("bbabaa")),
            (AB, (5, 1), ((0, 1), (2, 2), (3, 6), (4, 4), (5, 5), (4, 6), (0, 0)), tuple("abbbbba")),
            {("a", "a"): "b", ("a", "b"): "b", ("b", "a"): "b", ("b", "b"): "a"})

    def test_forty_stay(self):
        """Forty states that are all needed, one of them a root to which nothing leads."""
        query = (AB, *ring_and_root(39))
        least = least_query(query)
        self.assertEqual((len(least[3]), is_query(least), is_least(least)), (40, True, True))
        self.assertEqual(underneath(least, ()), least)
        self.assertEqual(len(translated_by(query, {"c": "b", "d": "a"})[3]), 40)
        self.assertEqual(combined(query, query, {("x", "x"): "x", ("y", "y"): "y"}), least)


if __name__ == "__main__":
    unittest.main()
