import unittest
from inspect import isgenerator, signature
from itertools import product

from openmarks.base import streams
from openmarks.base.labels import tags_down, tags_up
from openmarks.base.streams import (
    MAX_NODES, closing_order, is_beginning, is_stream, named_stream, next_tags, open_path,
    paths_on, plain_stream)
from openmarks.errors import BadTag, InvalidLabels, InvalidOperation
from samples import (
    AB, BOOLEANS, FOUR, NOT_LABELS, NOT_PLAIN, WRONG_ANYWHERE, check_keeps, check_raises,
    check_same, first_of)

first_path, first_closed = first_of(paths_on), first_of(closing_order)
WITH_PLAIN = (open_path, next_tags, first_path, first_closed)


def forests(labels, many):
    """All tuples of trees with so many nodes in all; a tree is (label, its children)."""
    if many == 0:
        return [()]
    found = []
    for first in range(1, many + 1):
        for label, below, rest in product(labels, forests(labels, first - 1), forests(labels, many - first)):
            found.append(((label, below),) + rest)
    return found


def trees(labels, most):
    return [f[0] for many in range(1, most + 1) for f in forests(labels, many) if len(f) == 1]


def tags_of(tree, plain):
    label, below = tree
    inner = sum([tags_of(child, plain) for child in below], ())
    return ("+" + label,) + inner + ("-" if plain else "-" + label,)


def paths_of(tree, above=()):
    label, below = tree
    path = above + (label,)
    return [path] + sum([paths_of(child, path) for child in below], [])


def closed_in(tree, number=0):
    """The numbers of the nodes in the order of their closings, and the next free number."""
    order, after = [], number + 1
    for child in tree[1]:
        inner, after = closed_in(child, after)
        order += inner
    return order + [number], after


def check_bad(test, position, labels, stream, plain):
    """Check the position of BadTag for each function, and that is_ functions say False."""
    for function in WITH_PLAIN:
        check_keeps(test, BadTag, "position", position, function, labels, stream, plain=plain)
    other = named_stream if plain else plain_stream
    check_keeps(test, BadTag, "position", position, other, labels, stream)
    test.assertIs(is_beginning(labels, stream, plain=plain), False)
    test.assertIs(is_stream(labels, stream, plain=plain), False)


class Form(unittest.TestCase):
    """The interface of stage 1."""

    def test_parameters(self):
        wanted = {
            is_stream: "(labels, value, *, plain=False)",
            is_beginning: "(labels, value, *, plain=False)",
            open_path: "(labels, stream, *, plain=False)",
            next_tags: "(labels, stream, *, plain=False)",
            paths_on: "(labels, stream, *, plain=False)",
            closing_order: "(labels, stream, *, plain=False)",
            named_stream: "(labels, stream)",
            plain_stream: "(labels, stream)",
        }
        for function, form in wanted.items():
            self.assertEqual(str(signature(function)), form, function)
            self.assertEqual(function.__module__, "openmarks.base.streams")

    def test_constant(self):
        self.assertEqual((type(MAX_NODES), MAX_NODES), (int, 5000))
        self.assertEqual(streams.MAX_NODES, 5000)

    def test_generators(self):
        self.assertTrue(isgenerator(paths_on(AB, ("+a",))))
        self.assertTrue(isgenerator(closing_order(AB, ("+a",))))

    def test_examples(self):
        tags = ("+b", "+a", "+b", "-b", "-a", "+b")
        self.assertEqual(open_path(AB, tags), ("b", "b"))
        self.assertEqual(next_tags(AB, tags), ("+a", "+b", "-b"))
        self.assertEqual(list(closing_order(AB, tags)), [2, 1])
        self.assertEqual(plain_stream(AB, tags)[2:], ("+b", "-", "-", "+b"))
        self.assertIs(is_beginning(AB, tags), True)
        self.assertIs(is_stream(AB, tags), False)
        self.assertEqual(next_tags(AB, ("+a",), plain=True), ("+a", "+b", "-"))
        self.assertEqual(list(paths_on(AB, tags))[3], ("b", "b"))


class AllSmallDocuments(unittest.TestCase):
    """[0.8], [1.1]: all tuples of five tags against all documents of five nodes."""

    def begin(self, plain):
        whole = {tags_of(tree, plain) for tree in trees(AB, 5)}
        return whole, {tags[:k] for tags in whole for k in range(len(tags) + 1)}

    def test_beginnings_and_next_tags(self):
        every_tag = ("+a", "+b", "-", "-a", "-b")
        for plain in BOOLEANS:
            whole, beginnings = self.begin(plain)
            for length in range(6):
                for tags in product(every_tag, repeat=length):
                    known = tags in beginnings
                    self.assertIs(is_beginning(AB, tags, plain=plain), known, tags)
                    self.assertIs(is_stream(AB, tags, plain=plain), tags in whole, tags)
                    if known and length < 5:
                        after = tuple(t for t in every_tag if tags + (t,) in beginnings)
                        self.assertEqual(next_tags(AB, tags, plain=plain), after, tags)
                    if not known:
                        bad = [k for k in range(length) if tags[:k + 1] not in beginnings][0]
                        check_keeps(self, BadTag, "position", bad, open_path, AB, tags, plain=plain)

    def test_paths_and_closings(self):
        for tree in trees(AB, 4):
            for plain in BOOLEANS:
                tags = tags_of(tree, plain)
                self.assertEqual(list(paths_on(AB, tags, plain=plain)), paths_of(tree))
                self.assertEqual(list(closing_order(AB, tags, plain=plain)), closed_in(tree)[0])
                self.assertEqual(open_path(AB, tags, plain=plain), ())
                self.assertEqual(next_tags(AB, tags, plain=plain), ())
                self.check_parts(tags, plain, paths_of(tree), closed_in(tree)[0])

    def check_parts(self, tags, plain, paths, order):
        for k in range(len(tags)):
            part = tags[:k]
            opened = sum(tag[0] == "+" for tag in part)
            self.assertEqual(list(paths_on(AB, part, plain=plain)), paths[:opened])
            self.assertEqual(list(closing_order(AB, part, plain=plain)), order[:k - opened])
            left = [n for n in range(opened) if n not in order[:k - opened]]
            current = paths[left[-1]] if left else ()
            self.assertEqual(open_path(AB, part, plain=plain), current)

    def test_named_and_plain(self):
        for tree in trees(AB, 4):
            named, plain = tags_of(tree, False), tags_of(tree, True)
            for k in range(len(named) + 1):
                self.assertEqual(plain_stream(AB, named[:k]), plain[:k])
                self.assertEqual(named_stream(AB, plain[:k]), named[:k])


class Edges(unittest.TestCase):
    """[0.8], [0.16], [1.1]: beginnings with 0, 4999, 5000 and 5001 nodes, and other edges."""

    def test_nothing_read(self):
        for plain in BOOLEANS:
            self.assertIs(is_beginning(AB, (), plain=plain), True)
            self.assertIs(is_stream(AB, (), plain=plain), False)
            self.assertEqual(open_path(AB, (), plain=plain), ())
            self.assertEqual(next_tags(AB, (), plain=plain), ("+a", "+b"))
            self.assertEqual(list(paths_on(AB, (), plain=plain)), [])
            self.assertEqual(list(closing_order(AB, (), plain=plain)), [])
        self.assertEqual((named_stream(AB, ()), plain_stream(AB, ())), ((), ()))

    def test_one_and_four_labels(self):
        self.assertEqual(next_tags(("abcdefgh",), ("+abcdefgh",)), ("+abcdefgh", "-abcdefgh"))
        self.assertEqual(next_tags(FOUR, ("+c",)), ("+a", "+b", "+c", "+d", "-c"))
        self.assertEqual(next_tags(FOUR, ("+c",), plain=True), ("+a", "+b", "+c", "+d", "-"))
        self.assertEqual(next_tags(FOUR, ("+c", "-c")), ())
        self.assertEqual(next_tags(("a", "aa", "b"), ()), ("+a", "+aa", "+b"))
        check_bad(self, 1, ("a", "aa"), ("+aa", "-a"), False)
        self.assertIs(is_stream(("a", "aa"), ("+aa", "+a", "-a", "-aa")), True)

    def test_nodes_below_one_another(self):
        for many in (1, 4999, 5000):
            word = (("a", "b") * 2500)[:many]
            for plain in BOOLEANS:
                down, up = tags_down(AB, word), tags_up(AB, word, plain=plain)
                opens = ("+a", "+b") if many < 5000 else ()
                self.assertEqual(next_tags(AB, down, plain=plain), opens + up[:1])
                check_same(self, open_path(AB, down, plain=plain), word)
                check_same(self, open_path(AB, down + up[:-1], plain=plain), word[:1])
                self.assertIs(is_stream(AB, down + up, plain=plain), True)
                self.assertIs(is_stream(AB, down + up[:-1], plain=plain), False)
                closed = list(closing_order(AB, down + up, plain=plain))
                check_same(self, closed, list(range(many))[::-1])
            named, plain_up = tags_up(AB, word), tags_up(AB, word, plain=True)
            check_same(self, plain_stream(AB, down + named), down + plain_up)
            check_same(self, named_stream(AB, down + plain_up), down + named)

    def test_paths_of_nodes_below_one_another(self):
        word = ("a", "b") * 2500
        many = 0
        for path in paths_on(AB, tags_down(AB, word)):
            many += 1
            self.assertTrue(path == word[:many])
        self.assertEqual(many, 5000)

    def test_nodes_side_by_side(self):
        for many in (4999, 5000):
            for plain in BOOLEANS:
                child = ("+b", "-") if plain else ("+b", "-b")
                tags = ("+a",) + child * (many - 1)
                last = "-" if plain else "-a"
                opens = ("+a", "+b") if many < 5000 else ()
                self.assertEqual(next_tags(AB, tags, plain=plain), opens + (last,))
                check_same(self, open_path(AB, tags, plain=plain), ("a",))
                self.assertIs(is_stream(AB, tags + (last,), plain=plain), True)
                paths = list(paths_on(AB, tags, plain=plain))
                check_same(self, paths, [("a",)] + [("a", "b")] * (many - 1))
                closed = list(closing_order(AB, tags + (last,), plain=plain))
                check_same(self, closed, list(range(1, many)) + [0])

    def test_node_5001(self):
        for plain in BOOLEANS:
            up, close = (("-", "-") if plain else ("-b", "-a"))
            deep = tags_down(AB, ("b",) * 5000)
            check_bad(self, 5000, AB, deep + ("+a",), plain)
            check_bad(self, 5001, AB, deep + (up, "+b", close), plain)
            wide = ("+a",) + ("+b", up) * 4999
            check_bad(self, len(wide), AB, wide + ("+b",), plain)
            check_bad(self, len(wide), AB, wide + ("+b", up, close), plain)
            self.assertIs(is_beginning(AB, wide + (close,), plain=plain), True)


def deep_stream(many, plain):
    """A whole document of so many nodes below one another, and what is known of it."""
    word = (("a", "b") * 2501)[:many]
    ups = tuple("-" if plain else "-" + label for label in word[::-1])
    return tuple("+" + label for label in word) + ups, lambda k: word[:k + 1], list(range(many))[::-1]


def wide_stream(many, plain):
    """The same for nodes side by side below the root."""
    child, end = (("+b", "-"), "-") if plain else (("+b", "-b"), "-a")
    return ("+a",) + child * (many - 1) + (end,), lambda k: ("a", "b")[:k + 1], list(range(1, many)) + [0]


class LongStreams(unittest.TestCase):
    """All functions that take a beginning, for long streams of all forms."""

    def forms(self, many):
        for plain in BOOLEANS:
            for make in (deep_stream, wide_stream):
                yield make, plain, make(many, plain)

    def test_whole(self):
        for many in (4999, 5000):
            for make, plain, (tags, path_of, order) in self.forms(many):
                self.assertIs(is_stream(AB, tags, plain=plain), True)
                for cut in (1, 2, 777, many - 1, many, many + 1, len(tags) - 2, len(tags) - 1, len(tags)):
                    self.check_part(make, plain, tags, cut, path_of, order)

    def check_part(self, make, plain, tags, cut, path_of, order):
        part = tags[:cut]
        opened = sum(tag[0] == "+" for tag in part)
        self.assertIs(is_beginning(AB, part, plain=plain), True)
        self.assertIs(is_stream(AB, part, plain=plain), cut == len(tags))
        closed = list(closing_order(AB, part, plain=plain))
        check_same(self, closed, order[:cut - opened])
        left = opened - 1 if make is deep_stream else 0
        if make is deep_stream:
            left -= cut - opened
        elif part[-1] == "+b":
            left = opened - 1
        path = () if cut == len(tags) else path_of(left)
        check_same(self, open_path(AB, part, plain=plain), path)
        can = ("+a", "+b") if path and opened < 5000 else ()
        end = (("-" if plain else "-" + path[-1]),) if path else ()
        self.assertEqual(next_tags(AB, part, plain=plain), can + end)
        other = make(len(tags) // 2, not plain)[0][:cut]
        check_same(self, (named_stream if plain else plain_stream)(AB, part), other)
        if make is wide_stream or cut in (1, 777, len(tags)):
            many = 0
            for many, found in enumerate(paths_on(AB, part, plain=plain), 1):
                self.assertTrue(found == path_of(many - 1))
            self.assertEqual(many, opened)

    def test_node_5001(self):
        for make, plain, (tags, _, _) in self.forms(5001):
            position = 5000 if make is deep_stream else 2 * 5000 - 1
            for end in (position + 1, position + 2, len(tags)):
                check_bad(self, position, AB, tags[:end], plain)
            self.assertIs(is_beginning(AB, tags[:position], plain=plain), True)

    def test_wrong_tags(self):
        wrong = ("", "+c", "-c", "+", None, 7, True, ["+a"], {}, (), ("+a",), "--", "a")
        for many in (4999, 5000):
            for make, plain, (tags, _, _) in self.forms(many):
                for k, position in enumerate((0, 1, 2, many // 2, many, 3 * many // 2, len(tags) - 1)):
                    # A closing of the other kind, of another label, and behind the root stand nowhere.
                    for value in (wrong[k], wrong[k + 6], "-" if not plain else "-a"):
                        changed = tags[:position] + (value,) + tags[position + 1:]
                        check_bad(self, position, AB, changed, plain)
                check_bad(self, len(tags), AB, tags + ("+a",), plain)
                check_bad(self, len(tags), AB, tags + tags[-1:], plain)
                check_bad(self, len(tags), AB, tags + tags, plain)

    def test_closings_of_other_labels(self):
        tags = wide_stream(5000, False)[0]
        for position in (2, 5000, 9998):
            check_bad(self, position, AB, tags[:position] + ("-a",) + tags[position + 1:], False)
        check_bad(self, 9999, AB, tags[:-1] + ("-b",), False)
        tags = deep_stream(5000, False)[0]
        for position in (5000, 7777, 9999):
            other = "-a" if tags[position] == "-b" else "-b"
            check_bad(self, position, AB, tags[:position] + (other,) + tags[position + 1:], False)


class BadTags(unittest.TestCase):
    """[0.16]: the position of BadTag for each of its reasons."""

    def test_no_tag(self):
        for tag in ("", "+", "+c", "-c", "a", "++a", "+ab", "+a ", "+A", "-ab", "--", " -", "a+"):
            for plain in BOOLEANS:
                check_bad(self, 0, AB, (tag,), plain)
                check_bad(self, 2, AB, ("+a", "+b", tag, "+a"), plain)

    def test_closings_of_the_other_kind(self):
        check_bad(self, 1, AB, ("+a", "-"), False)
        check_bad(self, 1, AB, ("+a", "-a"), True)

    def test_closes_another_label(self):
        check_bad(self, 1, AB, ("+a", "-b"), False)
        check_bad(self, 2, AB, ("+a", "+b", "-a", "-b"), False)
        check_bad(self, 3, AB, ("+a", "+b", "-b", "-b"), False)

    def test_nothing_to_close(self):
        check_bad(self, 0, AB, ("-a", "+a"), False)
        check_bad(self, 0, AB, ("-", "+a"), True)

    def test_behind_the_closing_of_the_root(self):
        for tag in ("+a", "-a", "+b", "-", None):
            check_bad(self, 2, AB, ("+a", "-a", tag), False)
            check_bad(self, 2, AB, ("+a", "-", tag), True)
            check_bad(self, 4, AB, ("+a", "+b", "-b", "-a", tag, "+a"), False)

    def test_elements_that_are_no_strings(self):
        for value in WRONG_ANYWHERE + BOOLEANS + ((), AB):
            if value not in ("+a", "-"):
                for plain in BOOLEANS:
                    check_bad(self, 0, AB, (value, "+a"), plain)
                    check_bad(self, 1, AB, ("+b", value), plain)

    def test_not_a_tuple(self):
        for value in WRONG_ANYWHERE + BOOLEANS + (["+a", "-a"], "+a", "+a-a", {"+a": 1}, ["x"], []):
            if not isinstance(value, tuple):
                for plain in BOOLEANS:
                    check_bad(self, 0, AB, value, plain)

    def test_end_of_a_beginning_is_no_fault(self):
        for tags in ((), ("+a",), ("+a", "+b"), ("+a", "+b", "-b")):
            self.assertIs(is_beginning(AB, tags), True)
            self.assertEqual(len(plain_stream(AB, tags)), len(tags))

    def test_generators_raise_ahead_of_values(self):
        tags = ("+a", "+b", "-b", "+c")
        check_keeps(self, BadTag, "position", 3, first_path, AB, tags)
        check_keeps(self, BadTag, "position", 3, first_closed, AB, tags)

    def test_arguments_stay(self):
        value = ["+a", ["-a"], {"a": 1}]
        check_bad(self, 0, AB, value, False)
        self.assertEqual(value, ["+a", ["-a"], {"a": 1}])


class OrderOfErrors(unittest.TestCase):
    """[0.4], [0.5], [0.16]: labels first, then plain, then the tags."""

    def test_labels(self):
        for labels in NOT_LABELS:
            for function in WITH_PLAIN + (is_beginning, is_stream):
                check_raises(self, InvalidLabels, function, labels, ("+a",))
                check_raises(self, InvalidLabels, function, labels, None, plain=None)
            for function in (named_stream, plain_stream):
                check_raises(self, InvalidLabels, function, labels, ("+a",))
                check_raises(self, InvalidLabels, function, labels, None)

    def test_plain(self):
        for plain in NOT_PLAIN:
            for function in WITH_PLAIN + (is_beginning, is_stream):
                check_raises(self, InvalidOperation, function, AB, ("+a",), plain=plain)
                check_raises(self, InvalidOperation, function, AB, ("-",), plain=plain)
                check_raises(self, InvalidOperation, function, AB, None, plain=plain)

    def test_is_functions_take_any_value(self):
        for value in WRONG_ANYWHERE + BOOLEANS + ((1, 2), ("a",), AB):
            for plain in BOOLEANS:
                self.assertIs(is_beginning(AB, value, plain=plain), False, value)
                self.assertIs(is_stream(AB, value, plain=plain), False, value)


if __name__ == "__main__":
    unittest.main()
