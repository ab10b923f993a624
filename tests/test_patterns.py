import unittest
from inspect import signature
from itertools import combinations
from random import Random

from openmarks.errors import (
    InvalidLabels, InvalidNumber, InvalidOperation, InvalidPattern, InvalidWord, ParseError, TooMany)
from openmarks.queries.patterns import Path, Pattern
from openmarks.queries.queries import colour_of, is_least, is_query
from samples import (
    AB, BELOW, CHILD, EVEN, FOUR, NOT_LABELS, WRONG, all_paths, check_keeps, check_raises)

WORDS = {"not": "not", "below": "below", "first": "first", "unbroken": "unbroken"}


def path_fits(steps, word):
    for places in combinations(range(len(word)), len(steps)):
        if places[-1] != len(word) - 1:
            continue
        before = (-1,) + places
        if all((step.startswith("//") or place == last + 1) and step.strip("/") in ("*", word[place])
               for step, last, place in zip(steps, before, places)):
            return True
    return False


def fits(tree, word):
    """Whether a word fits, by [4.1]; the pattern is a tuple like ("either", one, other)."""
    if not word:
        return False
    kind, beginnings = tree[0], [word[:k] for k in range(1, len(word) + 1)]
    if kind == "path":
        return path_fits(tree[1], word)
    if kind == "not":
        return not fits(tree[1], word)
    if kind == "either":
        return fits(tree[1], word) or fits(tree[2], word)
    if kind == "both":
        return fits(tree[1], word) and fits(tree[2], word)
    told = [fits(tree[-1], one) for one in beginnings]
    return {"below": any(told[:-1]), "first": told[-1] and not any(told[:-1]), "unbroken": all(told),
            "counted": kind == "counted" and sum(told) % tree[1] == tree[2]}[kind]


def made(tree):
    kind = tree[0]
    if kind == "path":
        return Path(*tree[1])
    if kind == "not":
        return ~made(tree[1])
    if kind == "either":
        return made(tree[1]) | made(tree[2])
    if kind == "both":
        return made(tree[1]) & made(tree[2])
    if kind == "counted":
        return made(tree[3]).counted(tree[1], rest=tree[2])
    return getattr(made(tree[1]), kind)()


def text_of(tree):
    kind = tree[0]
    if kind == "path":
        return "".join(tree[1])
    inner = [part if isinstance(part, int) else text_of(part) for part in tree[1:]]
    return " ".join([kind] + [str(t) if isinstance(t, int) or t[0] == "/" else f"({t})" for t in inner])


def parts_of(tree):
    return 1 if tree[0] == "path" else 1 + sum(parts_of(part) for part in tree[1:] if isinstance(part, tuple))


def random_tree(source, depth):
    if depth == 0 or source.random() < 0.25:
        many = source.randint(1, 4)
        return ("path", tuple(source.choice(("/", "//")) + source.choice("aab*") for _ in range(many)))
    kind = source.choice(("not", "either", "both", "below", "first", "unbroken", "counted"))
    if kind == "counted":
        times = source.randint(2, 4)
        return (kind, times, source.randrange(times), random_tree(source, depth - 1))
    return (kind,) + tuple(random_tree(source, depth - 1) for _ in range(2 if kind in ("either", "both") else 1))


SOURCE = Random(40)
STEPS = [one + name for one in ("/", "//") for name in "ab*"]
TREES = [("path", (one,)) for one in STEPS] + [("path", (one, two)) for one in STEPS for two in STEPS]
TREES += [random_tree(SOURCE, 3) for _ in range(150)]


class Form(unittest.TestCase):

    def test_parameters(self):
        wanted = {
            Path: "(*steps)", Path.of: "(steps)", Pattern.read: "(text)", Pattern.below: "(self)",
            Pattern.first: "(self)", Pattern.unbroken: "(self)", Pattern.counted: "(self, times, *, rest=0)",
            Pattern.query: "(self, labels, *, yes='yes', no='no')", Pattern.__call__: "(self, word)",
        }
        for call, form in wanted.items():
            self.assertEqual(str(signature(call)), form, call)
        for one in (Path, Pattern):
            self.assertEqual(one.__module__, "openmarks.queries.patterns")
        self.assertIsInstance(vars(Pattern)["alphabet"], property)
        self.assertEqual((Pattern.MAX_PARTS, Pattern.MAX_STATES, Path("/a").MAX_PARTS), (20, 200, 20))

    def test_classes(self):
        one = Path("//a")
        for pattern in (one, ~one, one | one, one & one, one.below(), one.first(), one.unbroken(), one.counted(2)):
            self.assertIsInstance(pattern, Pattern)
            self.assertIsNot(type(pattern), Pattern)
        check_raises(self, InvalidPattern, Pattern)

    def test_examples(self):
        deep, even = Path("//a").below(), Path("//a").counted(2)
        self.assertEqual((deep(("a", "b")), deep(("b", "a"))), (True, False))
        self.assertEqual((Path("/a", "//b")(("a", "c", "b")), () in ~deep, len(~deep | even)), (True, False, 6))
        self.assertEqual(str(~deep | even), "either (not (below //a)) (counted 2 0 //a)")
        self.assertIs(Pattern.read("counted 2 0 //a") == even, True)
        self.assertEqual(Path.of(("/a", "/*")).alphabet, ("a",))
        self.assertEqual(deep.query(AB), BELOW)
        self.assertEqual(even.query(AB, yes="even", no="odd"), EVEN)
        self.assertEqual(Path("/*", "/*").query(AB), CHILD)


class Meaning(unittest.TestCase):
    """[4.1], compared with the definition for all short words."""

    def test_words(self):
        for tree in TREES:
            pattern = made(tree)
            for word in [()] + all_paths(AB, 5):
                wanted = fits(tree, word)
                self.assertIs(pattern(word), wanted, (tree, word))
                self.assertIs(word in pattern, wanted, (tree, word))

    def test_queries(self):
        for tree in TREES:
            query = made(tree).query(AB)
            self.assertIs(is_query(query) and is_least(query), True)
            for word in all_paths(AB, 5):
                self.assertEqual(colour_of(query, word), "yes" if fits(tree, word) else "no", (tree, word))

    def test_texts(self):
        """[4.2], [4.3]"""
        for tree in TREES:
            pattern, text = made(tree), text_of(tree)
            self.assertEqual((str(pattern), len(pattern)), (text, parts_of(tree)))
            self.assertIs(Pattern.read(text) == pattern, True)
            self.assertIs(Pattern.read(text) != pattern, False)
            labels = tuple(sorted({name for name in "ab" if name in text.replace("either", "").replace("both", "")
                                   .replace("below", "").replace("unbroken", "")}))
            self.assertEqual(pattern.alphabet, labels)

    def test_other_labels(self):
        pattern = Path("//a", "/*", "//bcdefghi")
        self.assertEqual(pattern.alphabet, ("a", "bcdefghi"))
        self.assertEqual((pattern(("x", "a", "y", "z", "bcdefghi")), pattern(("a", "bcdefghi"))), (True, False))
        query = Path("//b").query(FOUR, yes="x", no="y")
        self.assertEqual(query, (FOUR, (0, 1, 0, 0), ((0, 1, 0, 0), (0, 1, 0, 0)), ("y", "x")))

    def test_long_words(self):
        pattern = (Path("//a").counted(2) & ~Path("//b", "//a", "/b").below()).first() | Path("//b", "/*")
        word = ("a", "b", "a", "a") * 1250
        self.assertIs(pattern(word), fits(("path", ("//b", "/*")), word[-4:]))
        check_raises(self, InvalidWord, pattern, word + ("a",))
        self.assertIs(word + ("a",) in pattern, False)
        self.assertIs(word in pattern, pattern(word))


class Making(unittest.TestCase):

    def test_steps(self):
        for steps in ((), ("/a",) * 7, ("a",), ("/",), ("//",), ("///a",), ("/a/b",), ("/A",), ("/a", "b"), ("/a ",),
                      ("/**",), ("*",), ("/abcdefghi",), ("//" + "a" * 9,), ("/a", None), ("//*a",), ("/a/",), ("",)):
            check_raises(self, InvalidPattern, Path, *steps)
            check_raises(self, InvalidPattern, Path.of, steps)
        for value in WRONG:
            check_raises(self, InvalidPattern, Path, value)
            check_raises(self, InvalidPattern, Path, "/a", value)
            check_raises(self, InvalidPattern, Path.of, (value, "/a"))
            check_raises(self, InvalidPattern, Path.of, value)
        check_raises(self, InvalidPattern, Path.of, ["/a"])
        six = ("/a", "//*", "/abcdefgh", "//a", "//b", "/*")
        self.assertEqual((str(Path(*six)), len(Path.of(six))), ("".join(six), 1))

    def test_others(self):
        one = Path("//a")
        for value in [v for v in WRONG if not isinstance(v, Pattern)] + ["//a", ("//a",)]:
            check_raises(self, InvalidPattern, one.__or__, value)
            check_raises(self, InvalidPattern, one.__and__, value)
            check_raises(self, InvalidPattern, (~one).__or__, value)
        self.assertEqual(str(one | ~one), "either //a (not //a)")
        self.assertEqual(str(~one & one), "both (not //a) //a")

    def test_counted(self):
        one = Path("//a")
        for times in [v for v in WRONG if not (type(v) is int and 2 <= v <= 6)] + [0, 1, 7, -2]:
            check_keeps(self, InvalidNumber, "value", times, one.counted, times)
            check_keeps(self, InvalidNumber, "value", times, one.counted, times, rest=-1)
        for times in range(2, 7):
            for rest in [v for v in WRONG if not (type(v) is int and 0 <= v < times)] + [times, -1]:
                check_keeps(self, InvalidNumber, "value", rest, one.counted, times, rest=rest)
            for rest in range(times):
                self.assertEqual(str(one.counted(times, rest=rest)), f"counted {times} {rest} //a")
            self.assertIs(one.counted(times) == one.counted(times, rest=0), True)

    def test_too_many_parts(self):
        pattern = Path("//a")
        for _ in range(19):
            pattern = ~pattern
        self.assertEqual((len(pattern), pattern(("a",)), pattern(("b",))), (20, False, True))
        for call in (pattern.__invert__, pattern.below, pattern.first, pattern.unbroken):
            check_keeps(self, TooMany, "limit", 20, call)
        check_keeps(self, TooMany, "limit", 20, pattern.counted, 2)
        check_keeps(self, InvalidNumber, "value", 1, pattern.counted, 1)
        check_keeps(self, InvalidNumber, "value", 2, pattern.counted, 2, rest=2)
        check_keeps(self, TooMany, "limit", 20, pattern.__or__, Path("/a"))
        check_raises(self, InvalidPattern, pattern.__or__, None)
        nine = Path("/a")
        for _ in range(8):
            nine = nine.below()
        self.assertEqual(len(nine | ~nine), 20)
        check_keeps(self, TooMany, "limit", 20, nine.__and__, ~~nine)

    def test_words(self):
        for word in WRONG + (("A",), ("a", ""), ("abcdefghi",), ["a"], "a", ("a", 1), ("a", {}), ("a", None)):
            if word not in (AB, ("z", "a")):
                check_raises(self, InvalidWord, ~Path("//a"), word)
                self.assertIs(word in ~Path("//a"), False)
        self.assertIs((~Path("//a"))(()), False)

    def test_equal(self):
        one = Path("/a", "//b")
        self.assertIs(one == Path.of(("/a", "//b")), True)
        for value in WRONG + ("/a//b", Path("/a//b".split("//")[0], "/b"), ~one, ~~one, one | one):
            self.assertIs(one == value, False)
            self.assertIs(one != value, True)


class Reading(unittest.TestCase):
    """[4.3]"""

    def test_wrong_texts(self):
        for text in ("", " ", "a", "/", "//", "/a/", "///a", "/a //b", "/a b", "/A", "/a" * 7, " /a", "/a ", "(/a)",
                     "not", "not a", "not (/a)", "not  /a", "not(/a)", "not not /a", "not (not /a", "not (not /a))",
                     "(not /a)", "either /a", "either /a /b /c", "either (/a) /b", "both /a", "not /a /b",
                     "counted /a", "counted 2 /a", "counted 2 2 /a", "counted 1 0 /a", "counted 7 0 /a",
                     "counted 02 0 /a", "counted 2 00 /a", "counted 2 -1 /a", "counted 0 2 /a", "counted /a 2 0",
                     "counted 2 0", "2", "2 0 /a", "either 2 /a", "below (2)", "not ()", "Not /a", "nor /a",
                     "not\n/a", "not /a\n", "first (either /a /b", "/*a", "/**", "counted (2) 0 /a", "not 2",
                     "either 2 0", "counted /a /a /a", "counted 2 /a 0", "/abcdefghi", "unbroken  (not /a)"):
            check_raises(self, ParseError, Pattern.read, text)

    def test_other_values(self):
        for value in WRONG:
            check_raises(self, ParseError, Pattern.read, value)

    def test_twenty_parts(self):
        text = "not (" * 18 + "not /a" + ")" * 18
        self.assertEqual((len(Pattern.read(text)), str(Pattern.read(text))), (20, text))
        check_raises(self, ParseError, Pattern.read, "not (" + text + ")")
        long = "/abcdefgh" * 6
        text = long
        for _ in range(9):
            text = f"either {long} " + (text if text == long else f"({text})")
        self.assertEqual((len(Pattern.read(text)), str(Pattern.read(text))), (19, text))
        text = f"counted 6 5 ({text})"
        self.assertEqual(str(Pattern.read(text)), text)
        check_raises(self, ParseError, Pattern.read, f"not ({text})")

    def test_long_texts(self):
        for text in ("(" * 100000, "not (" * 100000 + "/a" + ")" * 100000, "/a" * 100000, "either " * 100000,
                     "not " * 100000 + "/a", ")" * 100000, "2 " * 100000, "not (" * 500, "(" * 300, "not (" * 60):
            check_raises(self, ParseError, Pattern.read, text)


class Queries(unittest.TestCase):
    """p.query"""

    def test_errors(self):
        pattern = Path("//a", "/c")
        for labels in NOT_LABELS:
            check_raises(self, InvalidLabels, pattern.query, labels, yes=None)
        check_raises(self, InvalidOperation, pattern.query, AB)
        check_raises(self, InvalidOperation, pattern.query, ("c",), yes=None)
        for colour in WRONG + ("", "A", "abcdefghi"):
            if colour not in ("a", "ab"):
                check_raises(self, InvalidOperation, pattern.query, ("a", "c"), yes=colour)
                check_raises(self, InvalidOperation, pattern.query, ("a", "c"), no=colour)

    def test_colours(self):
        self.assertEqual(Path("//a").query(AB, yes="x", no="x"), (AB, (0, 0), ((0, 0),), ("x",)))
        self.assertEqual(Path("//*").query(("a",), no="abcdefgh"), (("a",), (0,), ((0,),), ("yes",)))
        self.assertEqual((~Path("//*")).query(("a",), no="abcdefgh"), (("a",), (0,), ((0,),), ("abcdefgh",)))

    def count(self, *times):
        pattern = Path("//*")
        for many in times:
            pattern = pattern.counted(many)
        return pattern

    def test_forty(self):
        # What the counts tell comes back behind 40 labels; the first path is an exception.
        forty = self.count(2, 4, 5)
        self.assertEqual([forty(("a",) * k) for k in range(1, 41)], [forty(("a",) * (40 + k)) for k in range(1, 41)])
        self.assertEqual((len(forty.query(("a",))[3]), forty(("a",))), (40, False))
        one_more = forty | Path("/*")
        for pattern in (one_more, ~one_more, one_more.below().counted(3) & one_more, self.count(3, 3, 5)):
            check_keeps(self, TooMany, "limit", 40, pattern.query, ("a",))
            self.assertEqual(len(pattern.query(("a",), yes="x", no="x")[3]), 1)
        self.assertEqual(len((one_more & ~Path("//*")).query(("a",))[3]), 1)

    def test_two_hundred(self):
        largest = self.count(2, 4, 5, 5)
        self.assertEqual(largest(("a",)), True)
        check_keeps(self, TooMany, "limit", 40, largest.query, ("a",))
        self.assertEqual(len((largest & ~Path("//*")).query(("a",))[3]), 1)
        both = self.count(5, 5) & self.count(2, 4)
        check_keeps(self, TooMany, "limit", 40, both.query, ("a",))
        for pattern in (largest & ~Path("/*"), self.count(2, 6, 6, 6), self.count(5, 5) & self.count(3, 3)):
            for one in (pattern, ~pattern, pattern & ~Path("//*"), (pattern & Path("/a")) | pattern.first()):
                check_keeps(self, TooMany, "limit", 200, one.query, ("a",))
                check_keeps(self, TooMany, "limit", 200, one.query, ("a",), yes="x", no="x")

    def test_great_parts(self):
        steps = ("//a",) + ("/*",) * 5
        check_keeps(self, TooMany, "limit", 40, Path(*steps).query, AB)
        self.assertEqual(len(Path(*steps[:5]).query(AB)[3]), 32)
        unlike = Path(*steps) | Path("//b", *steps[1:])
        check_keeps(self, TooMany, "limit", 40, unlike.query, FOUR)
        counts = Path(*steps).counted(3) | Path("//b", *steps[1:]).counted(4)
        check_keeps(self, TooMany, "limit", 200, counts.query, FOUR)
        check_keeps(self, TooMany, "limit", 200, (Path("/a") & counts).query, FOUR)
        parts = self.count(2, 2, 2, 2, 2, 2, 2) | self.count(3, 3, 3, 3)
        check_keeps(self, TooMany, "limit", 200, parts.query, AB)


if __name__ == "__main__":
    unittest.main()
