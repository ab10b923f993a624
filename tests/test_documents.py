import unittest
from inspect import isgenerator, signature
from random import Random

from openmarks.documents.documents import Document, folded, folded_size, is_folded, spelled
from openmarks.errors import (
    BadTag, InvalidDocument, InvalidLabels, InvalidNumber, InvalidOperation, InvalidWord, ParseError, TooMany)
from samples import (
    AB, NOT_DOCUMENTS, TREE, WRONG, broken, check_keeps, check_raises, check_same, first_of)
from test_streams import paths_of, tags_of, trees

DEEP = Document.chain(("a", "b") * 2500)
WIDE = Document(*("+a",) + ("+b", "-b") * 4999 + ("-a",))
LARGE = (DEEP, WIDE)


def text_of(tree):
    label, below = tree
    return label + ("(" + " ".join(text_of(child) for child in below) + ")" if below else "")


def size_of(tree):
    return 1 + sum(size_of(child) for child in tree[1])


def height_of(tree):
    return 1 + max((height_of(child) for child in tree[1]), default=0)


def all_nodes(tree, parent=None, first=0):
    """(node, parent, tree) for each node in order."""
    found, after = [(first, parent, tree)], first + 1
    for child in tree[1]:
        found += all_nodes(child, first, after)
        after += size_of(child)
    return found


def document_of(tree):
    return Document(*tags_of(tree, False))


def random_tree(source, labels, many):
    """A tree with so many nodes."""
    below = []
    left = many - 1
    while left:
        size = source.randint(1, left)
        below.append(random_tree(source, labels, size))
        left -= size
    return source.choice(labels), tuple(below)


SOURCE = Random(20)
RANDOM_TREES = [random_tree(SOURCE, ("a", "b", "cc", "d")[:1 + k % 4], SOURCE.randint(1, 25)) for k in range(60)]


class Form(unittest.TestCase):

    def test_parameters(self):
        wanted = {
            Document: "(*tags)", Document.of: "(tags)", Document.read: "(text)", Document.chain: "(word)",
            Document.parent: "(self, node)", Document.children: "(self, node)", Document.nodes: "(self)",
            Document.subtree: "(self, node)", Document.with_child: "(self, node, other, *, index=None)",
            Document.without: "(self, node)", Document.relabelled: "(self, **names)",
            Document.relabelled_by: "(self, names)", is_folded: "(value)", folded: "(document)",
            folded_size: "(parts)", spelled: "(parts)",
        }
        for call, form in wanted.items():
            self.assertEqual(str(signature(call)), form, call)
            self.assertEqual(call.__module__, "openmarks.documents.documents")
        self.assertIsInstance(vars(Document)["chain"], staticmethod)
        for name in ("tags", "plain_tags", "labels", "depth"):
            self.assertIsInstance(vars(Document)[name], property)
        self.assertEqual((type(Document.MOST_NODES), Document.MOST_NODES, TREE.MOST_NODES), (int, 5000, 5000))

    def test_examples(self):
        doc = Document.read("a(b c(d))")
        self.assertEqual(doc.plain_tags, ("+a", "+b", "-", "+c", "+d", "-", "-", "-"))
        self.assertEqual((doc[3], doc.parent(3), list(doc.children(0))), (("a", "c", "d"), 2, [1, 2]))
        self.assertEqual((("a", "c") in doc, doc.depth), (True, 3))
        self.assertEqual(str(doc.with_child(1, Document.chain(("a", "d")), index=0)), "a(b(a(d)) c(d))")
        self.assertEqual(str(doc.relabelled(b="c")), "a(c c(d))")
        self.assertEqual(folded(Document.read("a(b(c) b(c) c)")), (("c", ()), ("b", (0,)), ("a", (1, 1, 0))))
        self.assertEqual(str(spelled((("b", ()), ("c", ()), ("a", (0, 0))))), "a(b b)")


class AllSmallDocuments(unittest.TestCase):
    """[2.1], [2.2] and the interface, compared with plain trees."""

    def test_all(self):
        for tree in trees(AB, 4) + RANDOM_TREES:
            doc = document_of(tree)
            self.assertEqual(doc.tags, tags_of(tree, False))
            self.assertEqual(doc.plain_tags, tags_of(tree, True))
            self.assertEqual(doc.labels, tuple(sorted({path[-1] for path in paths_of(tree)})))
            self.assertEqual((doc.depth, len(doc), str(doc)), (height_of(tree), size_of(tree), text_of(tree)))
            self.assertEqual([doc[k] for k in range(len(doc))], paths_of(tree))
            for other in (Document.read(str(doc)), Document.of(doc.tags)):
                self.assertIs(other == doc, True)
                self.assertIs(other != doc, False)
            self.check_nodes(doc, tree)

    def check_nodes(self, doc, tree):
        nodes = all_nodes(tree)
        self.assertEqual(list(doc.nodes()), [(inner[0], parent) for _, parent, inner in nodes])
        for node, parent, inner in nodes:
            self.assertEqual(doc.parent(node), parent)
            self.assertEqual(list(doc.children(node)), [k for k, above, _ in nodes if above == node])
            self.assertEqual(doc.subtree(node), document_of(inner))

    def test_paths_in(self):
        for tree in trees(AB, 4):
            doc, paths = document_of(tree), paths_of(tree)
            for path in {p[:k] + q for p in paths for k in range(len(p) + 1) for q in ((), ("a",), ("b",))}:
                self.assertIs(path in doc, path in paths, (str(doc), path))

    def test_changes(self):
        small = trees(AB, 3)
        for tree in small:
            doc = document_of(tree)
            for node, parent, inner in all_nodes(tree):
                if node:
                    self.assertEqual(str(doc.without(node)), text_of(self.left_out(tree, node)))
                for other in small[:6]:
                    for index in [None] + list(range(len(inner[1]) + 1)):
                        wanted = self.put_in(tree, node, other, len(inner[1]) if index is None else index)
                        found = doc.with_child(node, document_of(other), index=index)
                        self.assertEqual(str(found), text_of(wanted))
            self.assertEqual(doc, document_of(tree))

    def left_out(self, tree, node):
        below, first = (), 1
        for child in tree[1]:
            if first != node:
                below += (self.left_out(child, node - first) if first < node < first + size_of(child) else child,)
            first += size_of(child)
        return tree[0], below

    def put_in(self, tree, node, other, index):
        if node == 0:
            return tree[0], tree[1][:index] + (other,) + tree[1][index:]
        below, first = (), 1
        for child in tree[1]:
            inside = first <= node < first + size_of(child)
            below += (self.put_in(child, node - first, other, index) if inside else child,)
            first += size_of(child)
        return tree[0], below


class Values(unittest.TestCase):

    def test_equal(self):
        self.assertIs(TREE == Document.read("b(a(b b) b)"), True)
        for value in WRONG + (TREE.tags, str(TREE), Document.read("b(a(b b) a)"), Document.read("b(a(b) b b)")):
            if not (isinstance(value, Document) and value.tags == TREE.tags):
                self.assertIs(TREE == value, False)
                self.assertIs(TREE != value, True)

    def test_in_takes_any_value(self):
        for value in WRONG + ((), ("b", None), ("b", ["a"]), ("b", {}), ["b"], ("b", True), ("b", TREE), (TREE,)):
            self.assertIs(value in TREE, False, value)
        self.assertIs(("b",) in TREE, True)

    def test_cannot_be_iterated_over(self):
        for call in (iter, list, tuple, sorted, max):
            self.assertRaises(TypeError, call, TREE)

    def test_generators(self):
        self.assertTrue(isgenerator(TREE.children(0)) and isgenerator(TREE.nodes()))

    def test_lists_that_come_out_are_not_kept(self):
        for value in (TREE.tags, TREE.plain_tags, TREE.labels, TREE[0]):
            self.assertIs(type(value), tuple)

    def test_relabelled(self):
        doc = Document.read("a(b(c) a(b) c(d))")
        for names, text in (
                ({}, "a(b(c) a(b) c(d))"), ({"a": "b", "b": "a"}, "b(a(c) b(a) c(d))"),
                ({"a": "b", "b": "c", "c": "d", "d": "a"}, "b(c(d) b(c) d(a))"),
                ({"z": "y", "c": "b"}, "a(b(b) a(b) b(d))"), ({"a": "x", "x": "b"}, "x(b(c) x(b) c(d))")):
            self.assertEqual(str(doc.relabelled(**names)), text)
            self.assertEqual(str(doc.relabelled_by(dict(names))), text)
        self.assertEqual(str(Document.read("self(a)").relabelled_by({"self": "b"})), "b(a)")
        self.assertEqual(Document.read("self(a)").relabelled(a="self").labels, ("self",))
        wrong = [v for v in WRONG if not isinstance(v, dict)] + [
            {"A": "b"}, {"a": "B"}, {"a": None}, {"a": ["b"]}, {0: "a"}, {None: "a"}, {("a",): "b"}, {"a": TREE},
            {"z": ""}, {"": "z"}, {"a": "abcdefghi"}, {"abcdefghi": "a"}, {"a": True}, {"a": "b", "c": {}}]
        for names in wrong:
            check_raises(self, InvalidLabels, doc.relabelled_by, names)
        check_raises(self, InvalidLabels, doc.relabelled, a=None)
        check_raises(self, InvalidLabels, doc.relabelled, A="b")


class Making(unittest.TestCase):
    """Document, Document.of, Document.read, Document.chain and their errors."""

    def check_bad(self, position, tags):
        check_keeps(self, BadTag, "position", position, Document, *tags)
        check_keeps(self, BadTag, "position", position, Document.of, tags)

    def test_bad_tags(self):
        self.check_bad(0, ())
        self.check_bad(1, ("+a",))
        self.check_bad(3, ("+a", "+b", "-b"))
        self.check_bad(1, ("+a", "-"))
        self.check_bad(1, ("+a", "-b", "-a"))
        self.check_bad(2, ("+a", "-a", "+a", "-a"))
        self.check_bad(2, ("+a", "-a", "-a"))
        self.check_bad(0, ("-a", "+a"))
        for tag in ("", "+", "a", "+A", "++a", "+abcdefghi", "+a b", "+1", "-", "+*"):
            self.check_bad(0, (tag, "+a"))
            self.check_bad(2, ("+a", "+b", tag, "+b"))
        for value in WRONG:
            if value != "+a":
                self.check_bad(0, (value,))
                self.check_bad(1, ("+a", value, "+b"))
            if not isinstance(value, tuple):
                check_keeps(self, BadTag, "position", 0, Document.of, value)

    def test_five_labels(self):
        four = ("+d", "+b", "-b", "+a", "+c", "-c")
        self.assertEqual(Document(*four, "-a", "-d").labels, ("a", "b", "c", "d"))
        self.check_bad(6, four + ("+e", "-e", "-a", "-d"))
        self.check_bad(6, four + ("-e", "+e", "-a", "-d"))
        self.check_bad(2, ("+a", "+b", "+C", "+c", "+d", "+e"))

    def test_node_5001(self):
        self.assertEqual((len(DEEP), len(WIDE)), (5000, 5000))
        self.check_bad(len(WIDE.tags) - 1, WIDE.tags[:-1] + ("+b", "-b", "-a"))
        self.check_bad(5000, ("+a",) * 5001 + ("-a",) * 5001)

    def test_texts(self):
        for text in ("", " ", "a ", " a", "a()", "a(b", "ab)", "a(b))", "a((b))", "a(b)(c)", "a (b)", "a( b)",
                     "a(b )", "a(b  c)", "a b", "a(b)c", "a(b)(", "(a)", "A", "a(b,c)", "a\n", "a(b\nc)", "abcdefghi",
                     "a(b c d e)", "(", ")", ")(", "a)", "a(", "+a", "a(-b)", "a(b) c", "a1", "~" * 300, "((" * 150):
            if text == "a(b c d e)":
                self.assertEqual(len(check_raises(self, ParseError, Document.read, text).args), 1)
            else:
                check_raises(self, ParseError, Document.read, text)
        for value in WRONG:
            if value not in ("a", "ab"):
                check_raises(self, ParseError, Document.read, value)
        self.assertEqual(Document.read("ab").tags, ("+ab", "-ab"))

    def test_long_texts(self):
        for doc in LARGE:
            self.assertTrue(Document.read(str(doc)) == doc)
        check_raises(self, ParseError, Document.read, str(WIDE)[:-1] + " b)")
        check_raises(self, ParseError, Document.read, "a(" * 5000 + "a" + ")" * 5000)
        for text in ("(" * 100000, "a(" * 100000, ")" * 100000, "a" * 100000, " " * 100000):
            check_raises(self, ParseError, Document.read, text)

    def test_chain(self):
        self.assertEqual(str(Document.chain(("a", "b", "a"))), "a(b(a))")
        self.assertEqual((len(DEEP), DEEP.depth, DEEP[4999] == ("a", "b") * 2500), (5000, 5000, True))
        wrong = [(), ("a",) * 5001, ("a", "b", "c", "d", "e"), ("A",), ("a", ""), ("abcdefghi",), ("a", ["b"])]
        for word in wrong + [v for v in WRONG if v not in (AB, ("z", "a"))]:
            check_raises(self, InvalidWord, Document.chain, word)
        self.assertEqual(Document.chain(("d", "c", "b", "a") * 3).labels, ("a", "b", "c", "d"))


class Errors(unittest.TestCase):

    def test_nodes(self):
        for node in [v for v in WRONG if not (type(v) is int and 0 <= v < 5)] + [5, -1, 10 ** 59]:
            for call in (TREE.__getitem__, TREE.parent, TREE.subtree, TREE.without, first_of(TREE.children)):
                check_keeps(self, InvalidNumber, "value", node, call, node)
            check_keeps(self, InvalidNumber, "value", node, TREE.with_child, node, None, index=-1)

    def test_with_child(self):
        for other in NOT_DOCUMENTS:
            check_raises(self, InvalidDocument, TREE.with_child, 1, other)
            check_raises(self, InvalidDocument, TREE.with_child, 1, other, index=3)
        for index in [v for v in WRONG if v not in (0, 1, None) or isinstance(v, bool)] + [3, -1]:
            check_keeps(self, InvalidNumber, "value", index, TREE.with_child, 1, TREE, index=index)
        self.assertEqual(str(TREE.with_child(1, Document("+a", "-a"), index=2)), "b(a(b b a) b)")
        four, other = Document.read("a(b c d)"), Document.chain(("e",))
        check_raises(self, InvalidDocument, four.with_child, 0, other)
        check_keeps(self, InvalidNumber, "value", 4, four.with_child, 0, other, index=4)
        self.assertEqual(len(four.with_child(0, Document.chain(("d", "c")))), 6)

    def test_too_many(self):
        one = Document.chain(("a",))
        for doc in LARGE:
            check_keeps(self, TooMany, "limit", 5000, doc.with_child, 0, one)
            smaller = doc.without(4999)
            self.assertEqual((len(smaller), len(smaller.with_child(0, one, index=0))), (4999, 5000))
            check_keeps(self, TooMany, "limit", 5000, smaller.with_child, 4998, Document.chain(("a", "b")))
            check_raises(self, InvalidDocument, doc.with_child, 0, Document.chain(("x", "y", "z")))

    def test_without_the_root(self):
        check_raises(self, InvalidOperation, TREE.without, 0)

    def test_large(self):
        self.assertEqual((DEEP.depth, WIDE.depth, DEEP.parent(4999), WIDE.parent(4999)), (5000, 2, 4998, 0))
        self.assertTrue(DEEP[4999] in DEEP and ("a", "b") in WIDE and ("a", "a") not in DEEP)
        self.assertTrue(DEEP[4999] + ("a",) not in DEEP)
        self.assertEqual((len(DEEP.subtree(4000)), len(list(WIDE.children(0)))), (1000, 4999))
        self.assertEqual((len(DEEP.without(1)), DEEP.relabelled(b="a").labels), (1, ("a",)))
        check_same(self, str(WIDE), "a(" + "b " * 4998 + "b)")


class Folded(unittest.TestCase):
    """[2.3]"""

    def least(self, tree):
        parts = []

        def close(inner):
            part = (inner[0], tuple([close(child) for child in inner[1]]))
            if part not in parts:
                parts.append(part)
            return parts.index(part)

        close(tree)
        return tuple(parts)

    def test_all(self):
        for tree in trees(AB, 5) + RANDOM_TREES:
            doc = document_of(tree)
            parts = folded(doc)
            self.assertEqual(parts, self.least(tree))
            self.assertIs(is_folded(parts), True)
            self.assertEqual((folded_size(parts), spelled(parts)), (len(doc), doc))

    def test_not_least(self):
        for parts, text in (
                ((("a", ()), ("a", ())), "a"), ((("c", ()), ("a", ()), ("b", (1, 1, 0))), "b(a a c)"),
                ((("a", ()), ("a", ()), ("b", (1, 0))), "b(a a)"), ((("x", ()), ("y", (0,)), ("z", ())), "z")):
            self.assertIs(is_folded(parts), True)
            self.assertEqual((str(spelled(parts)), folded_size(parts)), (text, len(spelled(parts))))

    def test_is_folded(self):
        right = (("c", ()), ("b", (0, 0)), ("a", (1, 1, 0)))
        for value in WRONG + ((), ("a", ()), (("a", (0,)),), (("a", ()), ("b", (1,))), (("a", ()), ("b", (-1,)))):
            self.check_not_folded(value)
        for value in broken(right, (None, True, False, -1, 3, 10 ** 59, "", "A", [], {}, TREE, 0.5)):
            if value not in (right[:2], right[1:], right[:1] + right[2:]) and "0.5" not in repr(value):
                if not self.is_right(value):
                    self.check_not_folded(value)

    def is_right(self, value):
        """Whether leaving out a part or a position left a folded document."""
        try:
            return all(len(part) == 2 and type(part) is tuple and type(part[0]) is str and part[0] in ("a", "b", "c")
                       and type(part[1]) is tuple and all(type(p) is int and 0 <= p < k for p in part[1])
                       for k, part in enumerate(value)) and type(value) is tuple and 0 < len(value)
        except TypeError:
            return False

    def check_not_folded(self, value):
        self.assertIs(is_folded(value), False, value)
        check_raises(self, InvalidDocument, folded_size, value)
        check_raises(self, InvalidDocument, spelled, value)

    def test_limits(self):
        chain = (("a", ()),) + tuple([("a", (k,)) for k in range(400)])
        self.assertIs(is_folded(chain[:400]), True)
        self.assertIs(is_folded(chain), False)
        self.assertEqual(folded(Document.chain(("a",) * 400)), chain[:400])
        check_keeps(self, TooMany, "limit", 400, folded, Document.chain(("a",) * 401))
        check_keeps(self, TooMany, "limit", 400, folded, DEEP)
        self.assertEqual(folded(WIDE), (("b", ()), ("a", (0,) * 4999)))
        wide = (("b", ()), ("a", (0,) * 5000))
        self.assertEqual((is_folded(wide), folded_size(wide)), (True, 5001))
        check_keeps(self, TooMany, "limit", 5000, spelled, wide)
        self.check_not_folded((("b", ()), ("a", (0,) * 5001)))
        self.assertTrue(spelled((("b", ()), ("a", (0,) * 4999))) == WIDE)

    def test_enormous(self):
        twice = (("a", ()),) + tuple([("b", (k, k)) for k in range(399)])
        self.assertEqual(folded_size(twice), 2 ** 400 - 1)
        check_keeps(self, TooMany, "limit", 5000, spelled, twice)
        self.assertEqual(len(spelled(twice[:12])), 4095)
        often = (("a", ()),) + tuple([("b", (k,) * 5000) for k in range(50)])
        self.assertEqual(folded_size(often), sum([5000 ** k for k in range(51)]))

    def test_labels_of_spelled(self):
        # What the last part does not use does not matter.
        five = (("a", ()), ("b", ()), ("c", ()), ("d", ()), ("e", (0, 1, 2, 3)))
        check_raises(self, InvalidDocument, spelled, five)
        self.assertEqual(str(spelled(five[:4] + (("e", (0, 1, 2)),))), "e(a b c)")
        self.assertEqual(folded_size(five), 5)
        both = five + tuple([("a", (k + 4,) * 20) for k in range(5)])
        check_raises(self, InvalidDocument, spelled, both)
        unused = (("a", ()), ("b", (0,) * 5000), ("c", (1,) * 5000), ("d", (0,)))
        self.assertEqual(str(spelled(unused)), "d(a)")

    def test_not_documents(self):
        for value in NOT_DOCUMENTS:
            check_raises(self, InvalidDocument, folded, value)


if __name__ == "__main__":
    unittest.main()
