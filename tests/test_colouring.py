import unittest
from inspect import isgenerator, signature
from random import Random

from openmarks.base.streams import next_tags, open_path
from openmarks.documents.documents import Document
from openmarks.errors import (
    BadTag, InvalidDocument, InvalidNumber, InvalidOperation, InvalidQuery, NothingToUndo, UnknownName)
from openmarks.queries.colouring import Reader, colours_of, nodes_of, tally
from samples import (
    AB, BELOW, BOOLEANS, CHILD, EVEN, FOUR, NOT_DOCUMENTS, NOT_NUMBERS, NOT_PLAIN, NOT_QUERIES, OBJECTS, SAMPLES, TREE,
    UNDER, WRONG, check_keeps, check_raises, check_same, first_of, plain_colour, plain_state, random_query)
from test_documents import DEEP, LARGE, RANDOM_TREES, document_of
from test_streams import paths_of, tags_of, trees

first_node = first_of(nodes_of)
SOURCE = Random(50)
WIDER = (FOUR,) + random_query(SOURCE, 9, FOUR)[1:]


class Form(unittest.TestCase):

    def test_parameters(self):
        wanted = {
            colours_of: "(query, document)", nodes_of: "(query, document, colour)", tally: "(query, document)",
            Reader: "(query, *, plain=False)", Reader.take: "(self, *tags)", Reader.take_all: "(self, tags)",
            Reader.back: "(self, many=1)", Reader.branch: "(self)", Reader.during: "(self, call)",
            Reader.document: "(self)",
        }
        for call, form in wanted.items():
            self.assertEqual(str(signature(call)), form, call)
            self.assertEqual(call.__module__, "openmarks.queries.colouring")
        for name in ("asked", "is_plain", "tags", "told", "open_word", "state"):
            self.assertIsInstance(vars(Reader)[name], property)

    def test_examples(self):
        self.assertEqual(colours_of(CHILD, TREE), ("no", "yes", "no", "no", "yes"))
        self.assertEqual((list(nodes_of(CHILD, TREE, "yes")), tally(CHILD, TREE)), ([1, 4], {"no": 3, "yes": 2}))
        reader = Reader(CHILD)
        self.assertEqual(reader.take("+a", "+b", "+a"), ("no", "yes", "no"))
        self.assertEqual((reader.state, reader.open_word, "-b" in reader), (2, ("a", "b", "a"), False))
        check_keeps(self, BadTag, "position", 4, reader.take, "-a", "-a")
        self.assertEqual((reader.back(2), reader.state, reader("+b")), (1, 0, "yes"))
        self.assertEqual(str(reader), "reader of 2 nodes, 2 open")


class Colours(unittest.TestCase):
    """[5.1]"""

    def test_all(self):
        for query in SAMPLES + tuple(random_query(SOURCE, 6, AB) for _ in range(20)):
            for tree in trees(AB, 4):
                self.check(query, document_of(tree), [plain_colour(query, path) for path in paths_of(tree)])

    def check(self, query, document, wanted):
        self.assertEqual(colours_of(query, document), tuple(wanted))
        many = {colour: wanted.count(colour) for colour in sorted(set(wanted))}
        self.assertEqual(list(tally(query, document).items()), list(many.items()))
        for colour in sorted(set(query[3])):
            nodes = [node for node, one in enumerate(wanted) if one == colour]
            self.assertEqual(list(nodes_of(query, document, colour)), nodes)

    def test_large(self):
        for document in LARGE:
            reader = Reader(BELOW)
            check_same(self, colours_of(BELOW, document), reader.take_all(document.tags))
            self.assertEqual(sum(tally(EVEN, document).values()), 5000)
        self.assertEqual(tally(EVEN, DEEP), {"even": 2500, "odd": 2500})
        self.assertEqual(list(tally(EVEN, DEEP)), ["even", "odd"])

    def test_not_kept(self):
        found = tally(CHILD, TREE)
        found["no"] = 7
        self.assertEqual(tally(CHILD, TREE), {"no": 3, "yes": 2})
        self.assertTrue(isgenerator(nodes_of(CHILD, TREE, "no")))

    def test_errors(self):
        other = Document.read("b(c)")
        for query in NOT_QUERIES[::3]:
            for call, more in ((colours_of, ()), (tally, ()), (first_node, ("no",))):
                check_raises(self, InvalidQuery, call, query, TREE, *more)
                check_raises(self, InvalidQuery, call, query, None, *more)
        for document in NOT_DOCUMENTS + (other,):
            for call, more in ((colours_of, ()), (tally, ()), (first_node, ("pink",))):
                check_raises(self, InvalidDocument, call, BELOW, document, *more)
        for colour in WRONG + ("pink", "odd"):
            check_keeps(self, UnknownName, "name", colour, first_node, BELOW, TREE, colour)
        unreached = (AB, (0, 0), ((0, 0), (0, 0)), ("x", "y"))
        self.assertEqual(list(nodes_of(unreached, TREE, "y")), [])


class PlainReader:
    """The interface of a reader, by the definitions alone."""

    def __init__(self, query, tags, plain):
        self.path, self.told, self.opened, self.closed = [], [], 0, 0
        self.state = None
        for tag in tags:
            if tag[0] == "+":
                self.path.append(tag[1:])
                self.told.append(plain_colour(query, self.path))
            else:
                self.path.pop()
                self.closed += 1
        self.whole = bool(self.told) and not self.path
        self.state = plain_state(query, self.path) if self.path else None
        self.text = f"reader of {len(self.told)} nodes, {len(self.path)} open"


class Readers(unittest.TestCase):
    """[5.2]"""

    def check(self, reader, query, tags, plain):
        plain_one = PlainReader(query, tags, plain)
        self.assertEqual((reader.asked, reader.is_plain, reader.tags), (query, plain, tags))
        self.assertEqual((reader.told, reader.open_word), (tuple(plain_one.told), tuple(plain_one.path)))
        self.assertEqual((reader.state, len(reader)), (plain_one.state, len(tags)))
        self.assertIs(bool(reader), plain_one.whole)
        self.assertEqual(str(reader), plain_one.text)
        self.assertEqual([reader[node] for node in range(len(plain_one.told))], plain_one.told)
        can = next_tags(query[0], tags, plain=plain)
        for tag in ("+a", "+b", "+c", "-a", "-b", "-c", "-"):
            self.assertIs(tag in reader, tag in can)
        self.assertEqual(open_path(query[0], tags, plain=plain), reader.open_word)
        if not plain_one.whole:
            check_raises(self, InvalidOperation, reader.document)

    def test_tag_by_tag(self):
        for query, tree in [(q, t) for q in SAMPLES for t in trees(AB, 4)[::5]] + [(WIDER, t) for t in RANDOM_TREES[3::4]]:
            if query is WIDER:
                tree = document_of(tree).relabelled(cc="c")
                streams = [tree.tags, tree.plain_tags]
            else:
                streams = [tags_of(tree, False), tags_of(tree, True)]
            for plain, tags in zip(BOOLEANS[::-1], streams):
                self.check_stream(query, tags, plain, Document(*streams[0]))

    def check_stream(self, query, tags, plain, document):
        reader, told = Reader(query, plain=plain), colours_of(query, document)
        self.check(reader, query, (), plain)
        for k, tag in enumerate(tags):
            found = reader(tag)
            opened = len(reader.told)
            self.assertEqual(found, told[opened - 1] if tag[0] == "+" else None)
            self.check(reader, query, tags[:k + 1], plain)
        self.assertEqual((reader.document(), bool(reader)), (document, True))
        for k in range(len(tags) - 1, -1, -1):
            self.assertEqual(reader.back(), k)
            self.check(reader, query, tags[:k], plain)
        for k in range(len(tags) + 1):
            self.check_parts(query, tags, plain, k)

    def check_parts(self, query, tags, plain, k):
        reader = Reader(query, plain=plain)
        first, second = reader.take(*tags[:k]), reader.take_all(tags[k:])
        self.assertEqual(first + second, reader.told)
        self.assertEqual(reader.back(len(tags) - k), k)
        self.check(reader, query, tags[:k], plain)
        other = Reader(query, plain=plain)
        other.take_all(tags[:k])
        self.assertIs(reader == other, True)

    def test_bad_tags(self):
        for plain in BOOLEANS:
            close = "-" if plain else "-b"
            reader = Reader(EVEN, plain=plain)
            reader.take("+b", "+b", close)
            before = reader.branch()
            for value in WRONG + ("", "-a", "+c", "--", "+", "-c", "+a ", "a"):
                if value in ("+a", close):
                    continue
                check_keeps(self, BadTag, "position", 3, reader, value)
                check_keeps(self, BadTag, "position", 3, reader.take, value, "+a")
                check_keeps(self, BadTag, "position", 5, reader.take_all, ("+a", "+b", value))
                self.assertIs(value in reader, False)
                if not isinstance(value, tuple):
                    check_keeps(self, BadTag, "position", 3, reader.take_all, value)
            check_keeps(self, BadTag, "position", 4, reader.take, close, "+a")
            self.assertIs(reader == before, True)
            self.check(reader, EVEN, ("+b", "+b", close), plain)
            self.assertEqual(reader.take(), ())
            self.assertEqual(reader.take_all(()), ())

    def test_node_5001(self):
        for document in LARGE:
            reader = Reader(BELOW)
            reader.take_all(document.tags[:-1])
            self.assertIs("+a" in reader, False)
            check_keeps(self, BadTag, "position", 9999, reader, "+a")
            self.assertEqual(len(reader.told), 5000)
            self.assertEqual((reader(document.tags[-1]), bool(reader), str(reader)),
                             (None, True, "reader of 5000 nodes, 0 open"))
            self.assertTrue(reader.document() == document)
            check_keeps(self, BadTag, "position", 10000, reader, "+a")
            self.assertEqual(reader.back(9999), 1)
            self.assertEqual((reader.open_word, reader.told), (("a",), ("no",)))

    def test_back(self):
        reader = Reader(CHILD)
        reader.take("+a", "+b", "-b")
        for many in NOT_NUMBERS:
            check_keeps(self, InvalidNumber, "value", many, reader.back, many)
        for many in (4, 10 ** 59):
            check_keeps(self, NothingToUndo, "many", many, reader.back, many)
        self.assertEqual(reader.tags, ("+a", "+b", "-b"))
        self.assertEqual((reader.back(0), reader.back(many=1), reader.open_word), (3, 2, ("a", "b")))
        self.assertEqual((reader.back(2), reader.state, reader.tags), (0, None, ()))
        check_keeps(self, NothingToUndo, "many", 1, reader.back)
        self.assertEqual(reader.back(0), 0)

    def test_nodes(self):
        reader = Reader(CHILD)
        reader.take("+a", "+b")
        for node in [v for v in WRONG if v not in (0, 1) or isinstance(v, bool)] + [2, -1]:
            check_keeps(self, InvalidNumber, "value", node, reader.__getitem__, node)
        self.assertRaises(TypeError, iter, reader)
        self.assertRaises(TypeError, list, reader)

    def test_branch(self):
        reader = Reader(UNDER, plain=True)
        reader.take("+a", "+b")
        other = reader.branch()
        self.assertIs(type(other), Reader)
        self.assertIs(other == reader, True)
        other.take("-", "+a", "+b")
        self.assertEqual((reader.tags, other.tags), (("+a", "+b"), ("+a", "+b", "-", "+a", "+b")))
        reader.back(2)
        self.assertEqual((len(other), len(reader)), (5, 0))
        self.check(other, UNDER, ("+a", "+b", "-", "+a", "+b"), True)
        self.check(reader, UNDER, (), True)

    def test_during(self):
        reader = Reader(CHILD)
        reader.take("+a", "+b")

        def call(one):
            self.assertIs(one, reader)
            one.back(2)
            one.take("+b", "-b")
            return one.tags, one.during(lambda same: same.back(1))

        self.assertEqual(reader.during(call), (("+b", "-b"), 1))
        self.check(reader, CHILD, ("+a", "+b"), False)

        def fail(one):
            one.take("-b", "-a")
            one("+a")

        check_keeps(self, BadTag, "position", 4, reader.during, fail)
        self.check(reader, CHILD, ("+a", "+b"), False)
        self.assertRaises(ZeroDivisionError, reader.during, lambda one: one.take("+a") + (1 // 0,))
        self.check(reader, CHILD, ("+a", "+b"), False)
        self.assertIsNone(reader.during(lambda one: None))

    def test_equal(self):
        readers = []
        for query in (CHILD, BELOW):
            for plain in BOOLEANS:
                for tags in ((), ("+a",), ("+b",), ("+a", "+b")):
                    reader = Reader(query, plain=plain)
                    reader.take_all(tags)
                    readers.append(reader)
        for k, one in enumerate(readers):
            for j, other in enumerate(readers):
                self.assertIs(one == other, k == j)
                self.assertIs(one != other, k != j)
            for value in WRONG_FOR_READERS:
                self.assertIs(one == value, False)

    def test_errors_of_new_readers(self):
        for query in NOT_QUERIES[::3]:
            check_raises(self, InvalidQuery, Reader, query)
            check_raises(self, InvalidQuery, Reader, query, plain=None)
        for plain in NOT_PLAIN + OBJECTS:
            check_raises(self, InvalidOperation, Reader, BELOW, plain=plain)


WRONG_FOR_READERS = tuple(v for v in WRONG if not isinstance(v, Reader)) + (CHILD, (), ("+a",))

if __name__ == "__main__":
    unittest.main()
