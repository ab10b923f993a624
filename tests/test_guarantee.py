"""[0.13] and [0.14], for many queries and machines."""

import unittest
from random import Random

from openmarks.documents.documents import Document
from openmarks.errors import TooMany, Unlimited
from openmarks.gaps.gaps import rings
from openmarks.gaps.levels import is_chain, is_number_paper, marks_needed, number_paper
from openmarks.gaps.relations import word_between
from openmarks.machines.descents import clash_of, enough_counts, is_split, split_documents
from openmarks.machines.following import Follower, flat_machine
from openmarks.machines.machines import first_wrong
from openmarks.machines.rightness import error_document, is_right, is_rightness_paper, rightness_paper
from openmarks.queries.budgets import marks_together
from openmarks.queries.colouring import Reader, colours_of
from openmarks.queries.combining import combined
from openmarks.queries.patterns import Path
from openmarks.queries.queries import least_query, recoloured_by
from samples import (
    AB, BELOW, BOOLEANS, CHILD, EVEN, SAMPLES, UNDER, check_raises, near_query, random_machine, random_query)
from test_documents import document_of
from test_streams import trees

SOURCE = Random(180)
QUERIES = list(SAMPLES) + [near_query(SOURCE, SOURCE.randint(2, 7), AB, (0, 1, 1)) for _ in range(40)] + [
    random_query(SOURCE, 5, AB, "xy") for _ in range(20)]


class Guarantee(unittest.TestCase):
    """[0.13]"""

    def test_queries(self):
        found = set()
        for query in QUERIES:
            for plain in BOOLEANS:
                paper = number_paper(query, plain=plain)
                number = marks_needed(query, plain=plain)
                self.assertIs(is_number_paper(query, paper, plain=plain), True)
                found.add(number)
                if number is None:
                    self.assertEqual(paper[0], "turn")
                    check_raises(self, Unlimited, flat_machine, query, plain=plain)
                    self.check_fewer(query, plain, self.long_chain(query, paper))
                    continue
                self.assertEqual((paper[0], len(paper[2])), ("number", number))
                self.check_fewer(query, plain, paper[2])
                try:
                    machine = flat_machine(query, plain=plain)
                except TooMany:
                    continue
                self.assertEqual((machine[2], is_right(machine, query)), (number, True))
        self.assertGreaterEqual(found, {None, 0, 1, 2})

    def long_chain(self, query, paper):
        """A chain of four links that goes round a turn."""
        (p, word, other, s), back = paper[1:]
        return ((word_between(least_query(query), None, p), word, other),) + ((back, word, other),) * 3

    def check_fewer(self, query, plain, chain):
        """No machine with fewer bookmarks than links is right."""
        self.assertIs(is_chain(query, chain, plain=plain), True)
        for marks in range(min(len(chain), 4)):
            machine = random_machine(SOURCE, SOURCE.randint(1, 3), marks, plain, AB)
            told = sorted(set(query[3]))[:2]
            if len(told) < 2:
                return
            opens = tuple(tuple((told["xy".index(c)], p, n) for c, p, n in row) for row in machine[3])
            machine = machine[:3] + (opens,) + machine[4:]
            self.assertIs(is_right(machine, query), False)
            most = enough_counts(machine, query, chain)
            if most ** len(chain) <= 5000:
                try:
                    clash = clash_of(machine, query, chain, most=most)
                except TooMany as error:
                    self.assertEqual(error.limit, 4900)
                    continue
                self.assertIs(is_split(machine, query, split_documents(machine, query, chain, clash)), True)

    def test_machines(self):
        """For every machine and query there is a paper of just one form."""
        documents = [document_of(tree) for tree in trees(AB, 4)[::3]]
        for k in range(200):
            query = SOURCE.choice(QUERIES)
            machine = random_machine(SOURCE, SOURCE.randint(1, 4), k % 3, k % 2 > 0, AB)
            paper = rightness_paper(machine, query)
            self.assertIs(is_rightness_paper(machine, query, paper), True)
            self.assertEqual(paper[0] == "right", is_right(machine, query))
            self.assertEqual(paper[0] == "right", error_document(machine, query) is None)
            if paper[0] == "right":
                self.assertEqual({first_wrong(machine, query, document) for document in documents}, {None})

    def test_changed_readers(self):
        """It holds for readers and followers that were undone and branched."""
        for query in QUERIES[:20]:
            if marks_needed(query) is None:
                continue
            for k in range(10):
                follower, reader = Follower(query), Reader(query)
                for _ in range(40):
                    tag = SOURCE.choice(("+a", "+b", "-a", "-b"))
                    if tag in reader:
                        self.assertEqual(follower.take(tag), reader.take(tag))
                    elif len(reader):
                        many = SOURCE.randint(1, min(3, len(reader)))
                        self.assertEqual(follower.back(many), reader.back(many))
                    if SOURCE.random() < 0.1:
                        follower, reader = follower.branch(), reader.branch()


class NotTrue(unittest.TestCase):
    """[0.14]: none of these is true."""

    def test_rings(self):
        """The number is that of the rings through which paths pass."""
        self.assertEqual([(len(rings(query)), marks_needed(query)) for query in (EVEN, BELOW)], [(1, 0), (2, 1)])

    def test_plain(self):
        """Plain closings never need more bookmarks than named ones."""
        self.assertEqual((marks_needed(EVEN), marks_needed(EVEN, plain=True)), (0, None))

    def test_together(self):
        """Two queries together need as many bookmarks as both of them one by one."""
        self.assertEqual((marks_needed(CHILD), marks_together((CHILD, CHILD))), (1, 1))

    def test_fewer_colours(self):
        """Fewer colours can need more bookmarks."""
        for query in QUERIES:
            for colours in ({"x": "y"}, {"yes": "no"}, {"odd": "even"}, {"z": "y"}):
                colours = {old: new for old, new in colours.items() if old in query[3]}
                for plain in BOOLEANS:
                    less = marks_needed(recoloured_by(query, colours), plain=plain)
                    number = marks_needed(query, plain=plain)
                    self.assertTrue(number is None or less is not None and less <= number)

    def test_depth(self):
        """A machine that is right for all documents of some depth is right."""
        third = Path("/*", "/*", "/*").query(AB)
        machine = flat_machine(recoloured_by(third, {"yes": "no"}))
        for tree in trees(AB, 4):
            document = document_of(tree)
            self.assertEqual(first_wrong(machine, third, document) is None, document.depth < 3)
        self.assertEqual((is_right(machine, third), error_document(machine, third).depth), (False, 3))

    def test_no_two_children(self):
        """A machine that is right for all documents in which no node has two children is right."""
        row = ((("no", 0, 1), ("no", 0, 1)), (("yes", 0, 2), ("yes", 0, 2)), (("no", 0, 2), ("no", 0, 2)))
        machine = (AB, False, 0, row, ((((0, 0),), ((0, 0),)),) * 3)
        for many in range(1, 9):
            self.assertIsNone(first_wrong(machine, CHILD, Document.chain(("a", "b", "a", "b") * 2)))
            self.assertIsNone(first_wrong(machine, CHILD, Document.chain(("b",) * many)))
        self.assertIs(is_right(machine, CHILD), False)
        self.assertEqual(len(error_document(machine, CHILD)), 3)

    def test_single_label(self):
        """With a single label no bookmark is needed."""
        one = (("a",), (0,), ((1,), (2,), (2,)), ("no", "yes", "no"))
        self.assertEqual([marks_needed(one, plain=plain) for plain in BOOLEANS], [1, 1])

    def test_both(self):
        """[13.1]: both together need at least as many as each, and at most the sum."""
        pairs = {(x, y): x + y for x in ("no", "yes") for y in ("no", "yes")}
        both = combined(CHILD, BELOW, pairs)
        self.assertEqual((marks_needed(both), marks_together((CHILD, BELOW))), (2, 2))
        self.assertEqual(marks_together((CHILD, UNDER)), None)
        machine = flat_machine(both)
        for tree in trees(AB, 4)[::5]:
            document = document_of(tree)
            self.assertIsNone(first_wrong(machine, both, document))
            self.assertEqual(len(colours_of(both, document)), len(document))


if __name__ == "__main__":
    unittest.main()
