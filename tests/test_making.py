"""All that makes a document, for great documents of all forms and for many small ones."""

import unittest
from itertools import product
from random import Random

from openmarks.documents.documents import Document, folded, folded_size, spelled
from openmarks.errors import BadTag, InvalidDocument, InvalidLabels, InvalidWord, ParseError, TooMany
from samples import WRONG, check_keeps, check_raises, check_same

SIZES = (4999, 5000, 5001)


def deep_tags(many, labels=("a", "b")):
    word = (labels * many)[:many]
    return tuple("+" + label for label in word) + tuple("-" + label for label in word[::-1])


def wide_tags(many):
    return ("+a",) + ("+b", "-b") * (many - 1) + ("-a",)


def bushy_tags(source, many, labels="abc"):
    tags, path, made = [], [], 0
    while path or not made:
        if made < many and (len(path) < 2 or source.random() < 0.52):
            path.append(source.choice(labels))
            tags.append("+" + path[-1])
            made += 1
        else:
            tags.append("-" + path.pop())
    return tuple(tags)


def text_of(tags):
    """The text, from the tags alone."""
    text, before = "", ""
    for tag in tags:
        if tag[0] == "+":
            text += ("(" if before[:1] == "+" else " " if before else "") + tag[1:]
        elif before[0] == "-":
            text += ")"
        before = tag
    return text


def nodes_of(tags):
    """The label, the parent and the tag positions of each node."""
    nodes, path = [], []
    for at, tag in enumerate(tags):
        if tag[0] == "+":
            nodes.append([tag[1:], path[-1] if path else None, at, None])
            path.append(len(nodes) - 1)
        else:
            nodes[path.pop()][3] = at + 1
    return nodes


def first_wrong(tags):
    """The position of the first tag that cannot stand there, or of the end, or None; [0.16]."""
    path, labels, made = [], set(), 0
    for at, tag in enumerate(tags):
        if made and not path:
            return at
        if isinstance(tag, str) and tag[:1] == "+" and tag[1:].isalpha() and tag[1:].islower() and len(tag) < 10:
            if made == 5000 or len(labels | {tag}) > 4:
                return at
            labels.add(tag)
            path.append(tag[1:])
            made += 1
        elif path and tag == "-" + path[-1]:
            path.pop()
        else:
            return at
    return len(tags) if path or not made else None


class Whole(unittest.TestCase):

    def check(self, document, tags):
        """Check all that a document shows against its tags."""
        nodes = nodes_of(tags)
        many = len(nodes)
        check_same(self, document.tags, tags)
        self.assertIs(type(document), Document)
        check_same(self, document.plain_tags, tuple(tag if tag[0] == "+" else "-" for tag in tags))
        self.assertEqual((len(document), document.labels), (many, tuple(sorted({tag[1:] for tag in tags}))))
        check_same(self, list(document.nodes()), [(label, parent) for label, parent, _, _ in nodes])
        depths = []
        for _, parent, _, _ in nodes:
            depths.append(1 if parent is None else depths[parent] + 1)
        self.assertEqual((document.depth, document.depth), (max(depths),) * 2)
        for node in {0, 1, many // 2, many - 2, many - 1} & set(range(many)):
            path, above = [], node
            while above is not None:
                path.append(nodes[above][0])
                above = nodes[above][1]
            check_same(self, document[node], tuple(path[::-1]))
            self.assertIs(document[node] in document, True)
            self.assertIs(document[node] + ("zzz",) in document, False)
            self.assertEqual(document.parent(node), nodes[node][1])
            check_same(self, list(document.children(node)), [k for k in range(many) if nodes[k][1] == node])
        self.assertEqual(len(str(document)), len(text_of(tags)))
        self.assertTrue(str(document) == text_of(tags))
        self.assertIs(document == Document(*tags), True)

    def test_great(self):
        source = Random(160)
        for many in (4998, 4999, 5000):
            for tags in (deep_tags(many), wide_tags(many), bushy_tags(source, many)):
                for document in (Document(*tags), Document.of(tags), Document.read(text_of(tags)),
                                 Document.of(tags).subtree(0)):
                    self.check(document, tags)
            self.check(spelled((("b", ()), ("a", (0,) * (many - 1)))), wide_tags(many))
            self.check(Document.chain(("a", "b") * (many // 2)), deep_tags(many // 2 * 2))
            self.check(Document.chain(("a",) * many), deep_tags(many, ("a",)))

    def test_small(self):
        source = Random(161)
        for k in range(300):
            tags = bushy_tags(source, 1 + k % 14, "abcd"[:1 + k % 4])
            document = Document.of(tags)
            self.check(document, tags)
            self.check(Document.read(text_of(tags)), tags)
            self.check(spelled(folded(document)), tags)
            self.assertEqual(folded_size(folded(document)), len(document))
            nodes = nodes_of(tags)
            for node, (_, _, start, end) in enumerate(nodes):
                self.check(document.subtree(node), tags[start:end])
                if node:
                    self.check(document.without(node), tags[:start] + tags[end:])
                for other in (Document.chain(("a",)), Document.read("a(b a(b) b)"), document):
                    if len(set(document.labels + other.labels)) > 4:
                        continue
                    self.check(document.with_child(node, other), tags[:end - 1] + other.tags + tags[end - 1:])
                    places = [nodes[child][2] for child in document.children(node)] + [end - 1]
                    for index, at in enumerate(places):
                        made = document.with_child(node, other, index=index)
                        self.check(made, tags[:at] + other.tags + tags[at:])
            for names in ({}, {"a": "b"}, {"a": "b", "b": "a"}, {"c": "abc", "q": "a"}, {"a": "z", "b": "z", "c": "z"}):
                wanted = tuple(tag[0] + names.get(tag[1:], tag[1:]) for tag in tags)
                self.check(document.relabelled_by(names), wanted)
                self.check(document.relabelled(**names), wanted)
            self.check(document, tags)

    def test_great_changes(self):
        source = Random(162)
        for tags in (deep_tags(5000), wide_tags(5000), bushy_tags(source, 5000)):
            document = Document.of(tags)
            nodes = nodes_of(tags)
            for node in (1, 2, 2500, 4998, 4999):
                _, parent, start, end = nodes[node]
                self.check(document.subtree(node), tags[start:end])
                less = document.without(node)
                self.check(less, tags[:start] + tags[end:])
                index = list(document.children(parent)).index(node)
                self.check(less.with_child(parent, document.subtree(node), index=index), tags)
                check_keeps(self, TooMany, "limit", 5000, document.with_child, node, Document.chain(("a",)))
                if len(less) < 5000:
                    at = len(tags) - (end - start) - 1
                    self.check(less.with_child(0, Document.chain(("b",))), less.tags[:at] + ("+b", "-b") + less.tags[at:])
            self.check(document.relabelled(b="a"), tuple(tag.replace("b", "a") for tag in tags))
            self.check(document.relabelled_by({"b": "a", "a": "b"}), tuple(
                tag[0] + {"a": "b", "b": "a"}.get(tag[1:], tag[1:]) for tag in tags))
            check_raises(self, InvalidLabels, document.relabelled_by, {"b": "B"})

    def test_nothing_is_shared(self):
        """Documents that are made of one another go their own ways."""
        document = Document.read("a(b c(b))")
        changed = document.relabelled(a="c")
        others = [document.without(1), document.with_child(2, changed), document.subtree(2), changed.relabelled(c="a")]
        self.assertEqual([str(one) for one in [document, changed] + others],
                         ["a(b c(b))", "c(b c(b))", "a(c(b))", "a(b c(b c(b c(b))))", "c(b)", "a(b a(b))"])
        self.assertEqual([one.labels for one in (document, changed)], [("a", "b", "c"), ("b", "c")])
        self.assertEqual([list(one.children(0)) for one in (document, changed, others[0])], [[1, 2], [1, 2], [1]])


class Tags(unittest.TestCase):
    """Document(*tags), Document.of(tags)"""

    def check_wrong(self, tags):
        wanted = first_wrong(tags)
        self.assertIsNotNone(wanted)
        check_keeps(self, BadTag, "position", wanted, Document, *tags)
        check_keeps(self, BadTag, "position", wanted, Document.of, tags)

    def test_sizes(self):
        for many in SIZES:
            for tags in (deep_tags(many), wide_tags(many)):
                if many <= 5000:
                    self.assertIsNone(first_wrong(tags))
                    self.assertEqual(len(Document.of(tags)), many)
                else:
                    self.check_wrong(tags)
                self.check_wrong(tags[:-1])
                self.check_wrong(tags + tags[:1])
                self.check_wrong(tags + tags[-1:])
        for tags in (("+a",) * 5001, ("+a",) * 20000, ("+a",) * 5000 + ("+q",), ("+a",) * 5000 + ("+a", "+a", None)):
            self.check_wrong(tags)

    def test_wrong_tags(self):
        for many in SIZES:
            for tags in (deep_tags(many), wide_tags(many)):
                for at in (0, 1, 2, many - 1, many, many + 1, 2 * many - 2, 2 * many - 1):
                    for tag in (None, 3, True, "", "+", "-", "a", "+A", "+abcdefghi", "-c", "+c\n", ["+a"], {}, (), ("+a",)):
                        self.check_wrong(tags[:at] + (tag,) + tags[at + 1:])
                    for tag in ("+a", "+b", "-a", "-b", "+c", "-c"):
                        changed = tags[:at] + (tag,) + tags[at + 1:]
                        if changed != tags and first_wrong(changed) is not None:
                            self.check_wrong(changed)
                    if first_wrong(tags[:at] + tags[at + 1:]) is not None:
                        self.check_wrong(tags[:at] + tags[at + 1:])

    def test_wrong_values(self):
        for tag in WRONG:
            if tag != "+a":
                self.check_wrong((tag,))
                self.check_wrong((tag, "+a", "-a"))
            if tag not in ("+a", "-a"):
                self.check_wrong(("+a", tag, "-a"))
                self.check_wrong(("+a", "+b", "-b", tag))
                self.check_wrong(("+a", "-a", tag))
        check_keeps(self, BadTag, "position", 0, Document)
        check_keeps(self, BadTag, "position", 0, Document.of, ())

    def test_fifth_label(self):
        for at in (4, 2500, 4999):
            tags = [tag for k in range(4999) for tag in ("+" + "bcd"[k % 3], "-" + "bcd"[k % 3])]
            tags[2 * at - 2:2 * at] = ["+e", "-e"]
            self.check_wrong(("+a", *tags, "-a"))
            self.check_wrong(("+a", *[tag.replace("d", "a") for tag in tags], "-q"))

    def test_all_short(self):
        """All short tuples of tags."""
        for many in range(7):
            for tags in product(("+a", "-a", "+b", "-b"), repeat=many):
                wanted = first_wrong(tags)
                if wanted is None:
                    check_same(self, Document(*tags).tags, tags)
                else:
                    check_keeps(self, BadTag, "position", wanted, Document, *tags)


class Texts(unittest.TestCase):
    """Document.read(text)"""

    def test_sizes(self):
        for many in SIZES:
            for tags in (deep_tags(many), wide_tags(many)):
                if many <= 5000:
                    self.assertEqual(len(Document.read(text_of(tags))), many)
                else:
                    check_raises(self, ParseError, Document.read, text_of(tags))

    def test_wrong_signs(self):
        for many in SIZES:
            for tags in (deep_tags(many), wide_tags(many)):
                text = text_of(tags)
                for at in (0, 1, 2, 3, len(text) // 2, len(text) // 2 + 1, len(text) - 2, len(text) - 1):
                    for sign in ("A", "", "  ", "\n", "()", "((", "))", ",", "-", "1", "q( ", " )"):
                        check_raises(self, ParseError, Document.read, text[:at] + sign + " " + text[at:])
                        if sign not in ("", "))") or text[at] in "()":
                            check_raises(self, ParseError, Document.read, text[:at] + sign + text[at + 1:])
                check_raises(self, ParseError, Document.read, text + " ")
                check_raises(self, ParseError, Document.read, text + ")")
                check_raises(self, ParseError, Document.read, text + " b")
                check_raises(self, ParseError, Document.read, text[:-1])
                check_raises(self, ParseError, Document.read, " " + text)

    def test_all_short(self):
        """Of all short texts, just those of documents are read."""
        source = Random(163)
        written = set()
        for _ in range(3000):
            text = text_of(bushy_tags(source, source.randint(1, 4), "ab"))
            written.add(text)
        for many in range(9):
            for signs in product("a( )", repeat=many):
                text = "".join(signs)
                if text in written:
                    self.assertEqual(str(Document.read(text)), text)
                else:
                    try:
                        document = Document.read(text)
                    except ParseError:
                        continue
                    self.assertEqual((str(document), text_of(document.tags)), (text, text))
        for text in ("ab(a)", "a(b)c", "a(b)(c)", "a b", "a(b  c)", "a(b c )", "a(b c))", "a((b))", "", "()", "(a)", "a()"):
            if text != "ab(a)":
                check_raises(self, ParseError, Document.read, text)
        check_raises(self, ParseError, Document.read, "a(b c d e)")
        self.assertEqual(len(Document.read("a(b c d)")), 4)
        check_raises(self, ParseError, Document.read, "a(b(c(d(e))))")
        for value in WRONG:
            if value not in ("a", "ab", "z"):
                check_raises(self, ParseError, Document.read, value)


class Words(unittest.TestCase):
    """Document.chain(word), spelled(parts)"""

    def test_chain(self):
        for many in SIZES:
            word = (("a", "b", "c", "d") * many)[:many]
            if many <= 5000:
                self.assertEqual(Document.chain(word).tags, deep_tags(many, ("a", "b", "c", "d")))
            else:
                check_raises(self, InvalidWord, Document.chain, word)
            for at in (0, 1, many // 2, many - 1):
                for label in (None, 0, "", "A", "e", "abcdefghi", ["a"], ("a",), {}, True, "a\n"):
                    check_raises(self, InvalidWord, Document.chain, word[:at] + (label,) + word[at + 1:])

    def test_spelled(self):
        for many in SIZES:
            forms = [
                ((("b", ()), ("a", (0,) * (many - 1))), wide_tags(many)),
                (tuple(("ab"[k % 2], (k - 1,) if k else ()) for k in range(400)), None)]
            for parts, tags in forms:
                if tags is None:
                    self.assertEqual(spelled(parts).depth, 400)
                elif many <= 5000:
                    self.assertEqual(spelled(parts).tags, tags)
                else:
                    check_keeps(self, TooMany, "limit", 5000, spelled, parts)
                for part in (None, ("c", (400,)), ("c", (-1,)), ("c", (True,)), ("C", ()), ["c", ()], ("c", [0]), ("c",)):
                    for at in (0, len(parts) // 2, len(parts) - 1):
                        check_raises(self, InvalidDocument, spelled, parts[:at] + (part,) + parts[at + 1:])

    def test_spelled_repeats(self):
        """Parts that are used many times, one behind the other, or again further up."""
        source = Random(164)
        for k in range(200):
            parts = []
            for many in range(source.randint(1, 9)):
                positions = tuple(source.randrange(many) for _ in range(source.randint(0, 4))) if many else ()
                parts.append((source.choice("abc"), positions))
            wanted = self.plain(parts, len(parts) - 1)
            if len(wanted) <= 10000:
                self.assertEqual(spelled(tuple(parts)).tags, wanted)
                self.assertEqual(folded_size(tuple(parts)), len(wanted) // 2)

    def plain(self, parts, k):
        label, positions = parts[k]
        inner = ()
        for position in positions:
            inner += self.plain(parts, position)
        return ("+" + label,) + inner + ("-" + label,)


if __name__ == "__main__":
    unittest.main()
