import unittest
from inspect import signature
from itertools import product
from random import Random

from openmarks.documents.documents import Document
from openmarks.errors import (
    BadTag, InvalidChain, InvalidDocument, InvalidLabels, InvalidMachine, InvalidOperation, InvalidQuery, InvalidWord,
    ParseError)
from openmarks.gaps.levels import number_paper
from openmarks.queries.colouring import colours_of
from openmarks.text.formats import Codec, colour_listing
from samples import (
    AB, BELOW, BOOLEANS, CHILD, EVEN, FIRST, FOUR, NOT_DOCUMENTS, NOT_LABELS, NOT_MACHINES, NOT_PLAIN, NOT_QUERIES,
    NOT_WORDS, OBJECTS, SAMPLES, TREE, UNDER, WRONG, check_keeps, check_raises, check_same, random_machine, random_query)
from test_documents import DEEP, LARGE, WIDE, document_of
from test_streams import tags_of, trees

KINDS = ("chain", "machine", "query", "tags", "word")
SOURCE = Random(150)
LONG = ("abcdefgh", "bb", "none", "z")
CHAIN = ((("a", "b"), ("b",), ("b",)), ((), ("a", "b"), ("a", "b")))
NAMED, PLAIN = Codec(AB), Codec(AB, plain=True)


def values_of(codec):
    """Some values of each kind."""
    labels, plain = codec.alphabet, codec == Codec(codec.alphabet, plain=True)
    word = tuple(SOURCE.choice(labels) for _ in range(7))
    yield from (("word", ()), ("word", labels[:1]), ("word", word), ("word", word * 700))
    for query in [random_query(SOURCE, many, labels) for many in (1, 3, 12, 40)]:
        yield "query", query
    for states, marks in product((1, 2, 11, 300), range(4)):
        yield "machine", random_machine(SOURCE, states if marks < 2 or states < 300 else 9, marks, plain, labels)
    yield "chain", ()
    yield "chain", ((word, labels, ()),)
    yield "chain", tuple((word[k:], word[:k], word[k:k + 1]) for k in range(8))
    for many in range(7):
        down = word[:many]
        close = ["-" if plain else "-" + label for label in down]
        yield "tags", tuple("+" + label for label in down)
        yield "tags", tuple("+" + label for label in down) + tuple(close[::-1])


class Form(unittest.TestCase):

    def test_parameters(self):
        wanted = {
            Codec: "(labels, *, plain=False)", Codec.of: "(query)", Codec.is_kind: "(value)",
            Codec.text: "(self, kind, thing)", Codec.parse: "(self, kind, text)", colour_listing: "(query, document)",
        }
        for call, form in wanted.items():
            self.assertEqual((str(signature(call)), call.__module__), (form, "openmarks.text.formats"))
        self.assertIsInstance(vars(Codec)["of"], classmethod)
        self.assertIsInstance(vars(Codec)["is_kind"], staticmethod)
        self.assertIsInstance(vars(Codec)["alphabet"], property)
        self.assertEqual((Codec.KINDS, NAMED.KINDS), (KINDS, KINDS))

    def test_examples(self):
        codec = Codec.of(BELOW)
        self.assertEqual(codec.text("query", BELOW), "labels a b\nroots 0 1\n0 no 2 2\n1 no 0 1\n2 yes 2 2")
        self.assertEqual(codec.text("chain", ((("b",), ("a", "a"), ("a", "a")),)), "b / a a / a a")
        self.assertEqual(codec.parse("word", "-"), ())
        self.assertEqual(
            colour_listing(BELOW, Document.read("b(a)")), "    0 no       b\n    1 no       b a\n    2 nodes")

    def test_codecs(self):
        for labels in NOT_LABELS:
            check_raises(self, InvalidLabels, Codec, labels, plain=None)
        for plain in NOT_PLAIN + OBJECTS:
            check_raises(self, InvalidOperation, Codec, AB, plain=plain)
        for query in NOT_QUERIES[::5]:
            check_raises(self, InvalidQuery, Codec.of, query)
        codecs = [Codec(labels, plain=plain) for labels in (AB, FOUR, ("a",)) for plain in BOOLEANS]
        for k, one in enumerate(codecs):
            for j, other in enumerate(codecs):
                self.assertIs(one == other, k == j)
                self.assertIs(one != other, k != j)
            for value in WRONG:
                self.assertIs(one == value, False)
        self.assertIs(Codec.of(UNDER) == Codec(AB), True)
        self.assertEqual((Codec.of(UNDER).alphabet, type(Codec.of(UNDER))), (AB, Codec))

    def test_kinds(self):
        for kind in KINDS:
            self.assertIs(Codec.is_kind(kind), True)
            self.assertIs(NAMED.is_kind(kind), True)
        for kind in WRONG + ("Chain", "words", "tag", "chain ", "", KINDS, ("chain",), ["word"]):
            self.assertIs(Codec.is_kind(kind), False)
            check_raises(self, InvalidOperation, NAMED.text, kind, None)
            check_raises(self, InvalidOperation, NAMED.parse, kind, None)


class Texts(unittest.TestCase):
    """[15.1] to [15.4]"""

    def test_forms(self):
        self.assertEqual([NAMED.text("word", word) for word in ((), ("a",), ("a", "b", "a"))], ["-", "a", "a b a"])
        self.assertEqual(NAMED.text("tags", ("+a", "+b", "-b")), "+a +b -b")
        self.assertEqual(PLAIN.text("tags", ("+a", "+b", "-", "-")), "+a +b - -")
        self.assertEqual([NAMED.text(kind, ()) for kind in ("tags", "chain")], ["none", "none"])
        self.assertEqual(NAMED.text("chain", CHAIN), "a b / b / b; - / a b / a b")
        self.assertEqual(NAMED.text("chain", (((), (), ()),)), "- / - / -")
        lines = ["labels a b", "named 1", "0 +a no 1 1", "0 +b no 0 0", "1 +a yes 0 1", "1 +b yes 0 1", "0 -a 0 0 0",
                 "0 -a 1 0 0", "0 -b 0 0 0", "0 -b 1 0 0", "1 -a 0 0 1", "1 -a 1 0 0", "1 -b 0 0 1", "1 -b 1 0 0"]
        self.assertEqual(NAMED.text("machine", FIRST), "\n".join(lines))
        plain = (AB, True, 0, ((("x", 0, 0), ("y", 0, 0)),), ((((0, 0),),),))
        self.assertEqual(PLAIN.text("machine", plain), "labels a b\nplain 0\n0 +a x 0 0\n0 +b y 0 0\n0 - 0 0 0")

    def test_back(self):
        seen = set()
        for labels, plain in product((AB, ("a",), LONG), BOOLEANS):
            codec = Codec(labels, plain=plain)
            for kind, value in values_of(codec):
                text = codec.text(kind, value)
                self.assertNotIn("  ", text)
                self.assertEqual(text, "\n".join(line.strip() for line in text.split("\n")))
                check_same(self, codec.parse(kind, text), value)
                seen.add(kind)
        self.assertEqual(seen, set(KINDS))
        for query in SAMPLES:
            paper = number_paper(query)
            if paper[0] == "number":
                self.assertEqual(NAMED.parse("chain", NAMED.text("chain", paper[2])), paper[2])

    def test_all_words_and_tags(self):
        """Of all short texts, just those that are written are read."""
        written = {NAMED.text("word", word) for many in range(4) for word in product(AB, repeat=many)}
        for many in range(6):
            for signs in product("ab -", repeat=many):
                self.check(NAMED, "word", "".join(signs), written)
        written = set()
        for tree in trees(AB, 3):
            tags = tags_of(tree, False)
            written |= {NAMED.text("tags", tags[:k]) for k in range(len(tags) + 1)}
        for words in product(("+a", "-a", "+b", "-b", "none", ""), repeat=3):
            for text in (" ".join(words), " ".join(words[:2]), words[0]):
                self.check(NAMED, "tags", text, written)

    def check(self, codec, kind, text, written):
        if text in written:
            self.assertEqual(codec.text(kind, codec.parse(kind, text)), text)
        else:
            check_raises(self, ParseError, codec.parse, kind, text)

    def test_changed_texts(self):
        """A text with a sign more, less or another one is no text, or that of another value."""
        many = 0
        for codec, values in ((NAMED, (("word", ("a", "b")), ("tags", ("+a", "+b", "-b")), ("chain", CHAIN), ("query", BELOW),
                                       ("machine", FIRST), ("query", random_query(SOURCE, 12, AB)))),
                              (PLAIN, (("tags", ("+a", "+b", "-")), ("machine", random_machine(SOURCE, 11, 1, True, AB))))):
            for kind, value in values:
                text = codec.text(kind, value)
                for at in range(0, len(text) + 1, 1 if len(text) < 150 else 3):
                    changed = [text[:at] + text[at + 1:], text[:at], text[at:]]
                    changed += [text[:at] + sign + text[at:] for sign in " \n0a1-+/;x\t\r"]
                    changed += [text[:at] + sign + text[at + 1:] for sign in " \n01a9-+/;A"]
                    for one in changed:
                        if one != text:
                            many += self.check_other(codec, kind, one, value)
        self.assertGreater(many, 100)

    def check_other(self, codec, kind, text, value):
        try:
            found = codec.parse(kind, text)
        except ParseError as error:
            self.assertIs(type(error), ParseError)
            return False
        self.assertNotEqual(found, value)
        self.assertEqual(codec.text(kind, found), text)
        return True

    def test_not_texts(self):
        long = "9" * 5000
        others = WRONG + (
            "-a", "- -", "a -", "a\n", "\na", " a", "a ", "a  b", "A", "c", "+a -a -a", "-b", "+a +c", "none none", "None",
            "labels a b", "labels a b\nroots 0 0", "labels a b\nroots 0 0\n", "labels a b\nroots 0 1\n0 no 0 0",
            "labels a b\nroots 0 0\n0 no 0 00", "labels a b\nroots 00 0\n0 no 0 0", "labels a b\nroots 0 0\n00 no 0 0",
            "labels a b\nroots 0 0\n0 No 0 0", "labels a b\nroots 0 0\n0 no 0", "labels a b\nroots 0 0\n0 no 0 0 0",
            "labels a b\nroots 0 0\n1 no 0 0", "labels b a\nroots 0 0\n0 no 0 0", "labels a c\nroots 0 0\n0 no 0 0",
            "labels a\nroots 0\n0 no 0", "Labels a b\nroots 0 0\n0 no 0 0", "labels a b\nroots 0 0\n0 no 0 0\n",
            "labels a b\nroots 0 0\n0 no 0 " + long, "labels a b\nroots " + long + " 0\n0 no 0 0",
            "labels a b\nroots 0 0\n" + long + " no 0 0", "labels a b\nroots 0 0\n0 no 0 -0", "labels a b\nroots 0 +0\n0 no 0 0",
            "labels a b\nroots 0 0\n0 no 0 \u0660", "labels a b\nroots 0 0\n0 no 0 \u00b2", "labels a b\r\nroots 0 0\n0 no 0 0",
            "labels a b\nnamed " + long, "labels a b\nnamed 4\n0 +a x 0 0", "labels a b\nnamed x\n0 +a x 0 0",
            "labels a b\nnamed 0\n0 +a x 0 0\n0 +b x 0 0\n0 -a 0 0 0", "- / - / - / -", "- / -", "- / - / -;", ";", "/", " / / ",
            "- / - / -; ", "- / - / -;- / - / -", "a / b", "a/b/b", "none; none", "- / - / none", "a" * 100000, "a " * 100000,
            "+a " * 6000, "9" * 100000, "\n" * 10000, "- / - / -; " * 3000)
        for codec, kind in product((NAMED, PLAIN), KINDS):
            for text in others:
                if (kind, text) in (("word", "a"), ("word", "b"), ("tags", "none"), ("chain", "none"), ("tags", "+a"),
                                    ("word", "-")):
                    continue
                check_raises(self, ParseError, codec.parse, kind, text)
        right = "labels a b\nroots 0 0\n0 no 0 0"
        self.assertEqual(NAMED.parse("query", right), (AB, (0, 0), ((0, 0),), ("no",)))

    def test_bounds(self):
        for many, right in ((4999, True), (5000, True), (5001, False)):
            word = ("a",) * many
            for kind, value, error in (("word", word, InvalidWord), ("chain", ((word, (), ()),), InvalidChain)):
                text = " ".join(word) + ("" if kind == "word" else " / - / -")
                if right:
                    self.assertEqual((NAMED.text(kind, value), NAMED.parse(kind, text)), (text, value))
                else:
                    check_raises(self, error, NAMED.text, kind, value)
                    check_raises(self, ParseError, NAMED.parse, kind, text)
            tags = ("+a",) * many
            if right:
                self.assertEqual(NAMED.parse("tags", NAMED.text("tags", tags)), tags)
            else:
                check_keeps(self, BadTag, "position", 5000, NAMED.text, "tags", tags)
                check_raises(self, ParseError, NAMED.parse, "tags", " ".join(tags))
        for document in LARGE:
            codec = Codec(document.labels)
            check_same(self, codec.parse("tags", codec.text("tags", document.tags)), document.tags)
            check_raises(self, ParseError, codec.parse, "tags", " ".join(document.tags + document.tags[:1]))
        for states, right in ((40, True), (41, False)):
            lines = ["labels a b", "roots 0 0"] + [f"{k} no 0 {k}" for k in range(states)]
            if right:
                self.assertEqual(len(NAMED.parse("query", "\n".join(lines))[2]), 40)
            else:
                check_raises(self, ParseError, NAMED.parse, "query", "\n".join(lines))
        for states, marks in ((300, 0), (301, 0), (2, 3), (2, 4), (1000, 0), (1001, 1)):
            lines = ["labels a b", f"plain {marks}"]
            lines += [f"{k} +{label} x 0 {k}" for k in range(states) for label in AB]
            lines += [f"{k} - {on} 0 {k}" for k in range(states) for on in range(2 ** marks)]
            if states <= 300 and marks <= 3:
                machine = PLAIN.parse("machine", "\n".join(lines))
                self.assertEqual((len(machine[3]), machine[2]), (states, marks))
            else:
                check_raises(self, ParseError, PLAIN.parse, "machine", "\n".join(lines))

    def test_other_codecs(self):
        """A text for other labels or closings is none."""
        other = Codec(("a", "c"))
        for kind, value in (("query", BELOW), ("machine", FIRST)):
            text = NAMED.text(kind, value)
            check_raises(self, ParseError, other.parse, kind, text)
            check_raises(self, ParseError, Codec(FOUR).parse, kind, text)
        check_raises(self, ParseError, PLAIN.parse, "machine", NAMED.text("machine", FIRST))
        self.assertEqual(PLAIN.parse("query", NAMED.text("query", BELOW)), BELOW)
        check_raises(self, ParseError, PLAIN.parse, "tags", "+a -a")
        check_raises(self, ParseError, NAMED.parse, "tags", "+a -")
        check_raises(self, ParseError, Codec(("a",)).parse, "word", "a b")


class Things(unittest.TestCase):

    def test_errors(self):
        for word in NOT_WORDS + OBJECTS + (["a"],):
            check_raises(self, InvalidWord, NAMED.text, "word", word)
        for query in NOT_QUERIES[::3] + ((("a", "c"),) + BELOW[1:], (("a",), (0,), ((0,),), ("x",))):
            check_raises(self, InvalidQuery, NAMED.text, "query", query)
        plain = random_machine(SOURCE, 2, 1, True, AB)
        for machine in NOT_MACHINES[::3] + (plain, random_machine(SOURCE, 2, 1, False, ("a", "c"))):
            check_raises(self, InvalidMachine, NAMED.text, "machine", machine)
        check_raises(self, InvalidMachine, PLAIN.text, "machine", FIRST)
        self.assertIsInstance(PLAIN.text("machine", plain), str)
        self.assertEqual(PLAIN.text("query", EVEN), NAMED.text("query", EVEN))
        word = ("a",)
        chains = tuple(v for v in WRONG if v != ()) + (
            (word,), ((word, word),), ((word,) * 4,), [(word,) * 3], ([word] * 3,), ((word, word, ["a"]),),
            ((word, ("c",), word),), (("a", "b", "a"),), ((word, word, None),), (((),) * 3, None), word * 3, ((TREE,) * 3,),
            ((word, (True,), word),))
        for chain in chains:
            check_raises(self, InvalidChain, NAMED.text, "chain", chain)
        for tags in [v for v in WRONG if not isinstance(v, tuple)] + [["+a"], "none"]:
            check_keeps(self, BadTag, "position", 0, NAMED.text, "tags", tags)
        check_keeps(self, BadTag, "position", 1, NAMED.text, "tags", ("+a", "-"))
        check_keeps(self, BadTag, "position", 1, PLAIN.text, "tags", ("+a", "-a"))
        check_keeps(self, BadTag, "position", 2, NAMED.text, "tags", ("+a", "-a", "+a"))
        check_keeps(self, BadTag, "position", 0, NAMED.text, "tags", ("+c",))


class Listing(unittest.TestCase):

    def test_lines(self):
        for query in (CHILD, UNDER):
            for tree in trees(AB, 3):
                document = document_of(tree)
                colours = colours_of(query, document)
                lines = [str(k).rjust(5) + " " + colours[k].ljust(9) + " ".join(document[k]) for k in range(len(document))]
                self.assertEqual(
                    colour_listing(query, document), "\n".join(lines + [str(len(document)).rjust(5) + " nodes"]))

    def test_long(self):
        for document in (DEEP, WIDE) + LARGE:
            labels = document.labels
            query = (labels, (0,) * len(labels), ((0,) * len(labels),), ("abcdefgh",))
            lines = colour_listing(query, document).split("\n")
            self.assertEqual((len(lines), lines[-1]), (5001, "5,000 nodes"))
            self.assertEqual(lines[999], "  999 abcdefgh " + " ".join(document[999]))
            self.assertEqual(lines[4999], " 4999 abcdefgh " + " ".join(document[4999]))
        for many, text in ((999, "  999 nodes"), (1000, "1,000 nodes"), (4999, "4,999 nodes")):
            listing = colour_listing(EVEN, Document.read("a(" + " ".join(["b"] * (many - 1)) + ")"))
            self.assertEqual(listing.split("\n")[-1], text)

    def test_errors(self):
        for query in NOT_QUERIES[::5]:
            check_raises(self, InvalidQuery, colour_listing, query, None)
        for document in NOT_DOCUMENTS + (Document.read("b(c)"),):
            check_raises(self, InvalidDocument, colour_listing, BELOW, document)
        self.assertIn("nodes", colour_listing(BELOW, TREE))


if __name__ == "__main__":
    unittest.main()
