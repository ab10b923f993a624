import unittest
from inspect import signature
from random import Random

from openmarks.documents.documents import Document
from openmarks.errors import (
    BadTag, InvalidDocument, InvalidLabels, InvalidMachine, InvalidNumber, InvalidOperation, InvalidQuery,
    NothingToUndo)
from openmarks.machines import machines
from openmarks.machines.machines import (
    MAX_MACHINE_STATES, MAX_MARKS, Run, colours_told, first_wrong, is_machine, make_machine, situation_after)
from samples import (
    AB, BELOW, BOOLEANS, CHILD, EVEN, FIRST, FOUR, NOT_DOCUMENTS, NOT_LABELS, NOT_MACHINES, NOT_NUMBERS, NOT_PLAIN,
    NOT_QUERIES, OBJECTS, TREE, WRONG, check_keeps, check_raises, check_same, plain_colour, random_machine)
from test_documents import DEEP, LARGE, RANDOM_TREES, WIDE, document_of
from test_streams import paths_of, tags_of, trees

SOURCE = Random(80)
RANDOM = [random_machine(SOURCE, SOURCE.randint(1, 5), k % 4, k % 8 > 3, AB) for k in range(64)]
ALL = [FIRST] + RANDOM
GREAT = [random_machine(SOURCE, 300, marks, plain, FOUR) for marks in (0, 3) for plain in BOOLEANS]


class PlainRun:
    """[0.12], followed word by word."""

    def __init__(self, machine):
        self.labels, self.plain, self.marks, self.opens, self.closes = machine
        self.state, self.told, self.path, self.many = 0, [], [], 0
        self.lies = [None] * self.marks

    def put(self, placed, node):
        for mark in range(self.marks):
            if placed // 2 ** mark % 2:
                self.lies[mark] = node

    def read(self, tag):
        if tag[0] == "+":
            colour, placed, self.state = self.opens[self.state][self.labels.index(tag[1:])]
            self.told.append(colour)
            self.path.append(self.many)
            self.put(placed, self.many)
            self.many += 1
            return
        node = self.path.pop()
        here = [mark for mark in range(self.marks) if self.lies[mark] == node]
        column = 0 if self.plain else self.labels.index(tag[1:])
        placed, self.state = self.closes[self.state][column][sum(2 ** mark for mark in here)]
        for mark in here:
            self.lies[mark] = None
        if self.path:
            self.put(placed, self.path[-1])
        else:
            self.lies = [None] * self.marks

    def situation(self):
        return self.state, tuple(
            None if node is None else len(self.path) - 1 - self.path.index(node) for node in self.lies)


def small_documents(machine):
    found = [document_of(tree) for tree in trees(AB, 4)[::3]]
    return found + [doc for doc in map(document_of, RANDOM_TREES[1::4]) if set(doc.labels) <= set(machine[0])]


def tags_for(machine, document):
    return document.plain_tags if machine[1] else document.tags


def with_colours(machine, colours):
    """The machine with these two colours in the place of its own."""
    old = sorted({entry[0] for row in machine[3] for entry in row})
    opens = tuple(tuple((colours[old.index(entry[0])],) + entry[1:] for entry in row) for row in machine[3])
    return machine[:3] + (opens,) + machine[4:]


class Form(unittest.TestCase):

    def test_parameters(self):
        wanted = {
            is_machine: "(value)", make_machine: "(labels, opens, closes, *, marks=0, plain=False)",
            situation_after: "(machine, stream)", colours_told: "(machine, document)",
            first_wrong: "(machine, query, document)", Run: "(machine)", Run.take: "(self, *tags)",
            Run.take_all: "(self, tags)", Run.ahead: "(self, *tags)", Run.back: "(self, many=1)",
            Run.branch: "(self)",
        }
        for call, form in wanted.items():
            self.assertEqual(str(signature(call)), form, call)
            self.assertEqual(call.__module__, "openmarks.machines.machines")
        for name in ("machine", "tags", "situation", "told", "open_word", "placed"):
            self.assertIsInstance(vars(Run)[name], property)
        self.assertEqual((MAX_MARKS, MAX_MACHINE_STATES), (3, 300))
        self.assertEqual((machines.MAX_MARKS, machines.MAX_MACHINE_STATES), (3, 300))

    def test_examples(self):
        self.assertEqual(make_machine(AB, FIRST[3], FIRST[4], marks=1), FIRST)
        self.assertEqual(situation_after(FIRST, ("+b", "+a", "+b")), (1, (1,)))
        self.assertEqual(situation_after(FIRST, ("+b", "+a", "-a")), (0, (None,)))
        self.assertEqual(colours_told(FIRST, TREE), ("no", "no", "yes", "yes", "no"))
        self.assertEqual((first_wrong(FIRST, BELOW, TREE), first_wrong(FIRST, CHILD, TREE)), (None, 1))
        run = Run(FIRST)
        self.assertEqual((run.take("+b", "+a"), run.ahead("-a", "+b")), (("no", "no"), ("no",)))
        self.assertEqual((run.situation, run.placed, run.open_word), ((1, (0,)), (1,), ("b", "a")))
        self.assertEqual((run.back(), run.situation, run[0], bool(run)), (1, (0, (None,)), (0, (None,)), False))
        self.assertEqual(str(run), "run in state 0 after 1 tags")


class IsMachine(unittest.TestCase):
    """[0.12]"""

    def test_machines(self):
        for machine in ALL + GREAT:
            self.assertIs(is_machine(machine), True)
            labels, plain, marks, opens, closes = machine
            self.assertEqual(make_machine(labels, opens, closes, marks=marks, plain=plain), machine)

    def test_others(self):
        for value in NOT_MACHINES:
            self.assertIs(is_machine(value), False, value)

    def test_entries_of_closings(self):
        opens = ((("x", 0, 0), ("x", 0, 0)),)
        one = ((0, 0),)
        for plain in BOOLEANS:
            for many in range(4):
                self.assertIs(is_machine((AB, plain, 0, opens, ((one,) * many,))), many == (1 if plain else 2))
                pairs = ((0, 0),) * many
                closes = ((pairs,) if plain else (pairs, pairs),)
                self.assertIs(is_machine((AB, plain, 1, opens, closes)), many == 2)

    def test_sizes(self):
        for states, right in ((1, True), (300, True), (301, False)):
            opens = ((("x", 0, states - 1),),) * states
            closes = ((((0, states - 1),),),) * states
            self.assertIs(is_machine((("a",), True, 0, opens, closes)), right)
        for marks in range(5):
            closes = ((((0, 0),) * 2 ** marks,),)
            for placed in range(2 ** marks + 1):
                machine = (("a",), True, marks, ((("x", placed, 0),),), closes)
                self.assertIs(is_machine(machine), marks < 4 and placed < 2 ** marks)

    def test_make_errors(self):
        for labels in NOT_LABELS:
            check_raises(self, InvalidLabels, make_machine, labels, None, None, marks=-1, plain=None)
        for marks in [v for v in WRONG if not (type(v) is int and 0 <= v <= 3)] + [4, -1]:
            check_keeps(self, InvalidNumber, "value", marks, make_machine, AB, None, None, marks=marks, plain=None)
        for plain in NOT_PLAIN + OBJECTS:
            check_raises(self, InvalidOperation, make_machine, AB, None, None, marks=1, plain=plain)
        for value in WRONG + ((), (FIRST[3][0],)):
            check_raises(self, InvalidMachine, make_machine, AB, value, FIRST[4], marks=1)
            check_raises(self, InvalidMachine, make_machine, AB, FIRST[3], value, marks=1)
        check_raises(self, InvalidMachine, make_machine, AB, FIRST[3], FIRST[4])
        check_raises(self, InvalidMachine, make_machine, AB, FIRST[3], FIRST[4], marks=1, plain=True)


class Simulated(unittest.TestCase):
    """[0.12], [8.1], compared with a plain simulation."""

    def test_all(self):
        for machine in ALL:
            for document in small_documents(machine):
                plain_one, tags = PlainRun(machine), tags_for(machine, document)
                run = Run(machine)
                self.check(run, plain_one, ())
                for k, tag in enumerate(tags):
                    plain_one.read(tag)
                    told = run(tag)
                    self.assertEqual(told, plain_one.told[-1] if tag[0] == "+" else None)
                    self.check(run, plain_one, tags[:k + 1])
                self.assertEqual(colours_told(machine, document), tuple(plain_one.told))
                self.assertEqual((bool(run), run.situation[1]), (True, (None,) * machine[2]))
                self.check_back(machine, run, tags)

    def check(self, run, plain_one, tags):
        self.assertEqual((run.situation, run.told), (plain_one.situation(), tuple(plain_one.told)))
        self.assertEqual((run.placed, run.tags, len(run)), (tuple(plain_one.lies), tags, len(tags)))
        self.assertEqual((run[len(tags)], len(run.open_word)), (run.situation, len(plain_one.path)))
        self.assertEqual(situation_after(run.machine, tags), plain_one.situation())
        self.assertEqual(str(run), f"run in state {plain_one.state} after {len(tags)} tags")
        self.assertIs(bool(run), bool(tags) and not plain_one.path)

    def check_back(self, machine, run, tags):
        situations = [run[k] for k in range(len(tags) + 1)]
        self.assertEqual(situations, [situation_after(machine, tags[:k]) for k in range(len(tags) + 1)])
        told = run.told
        for left in range(len(tags), -1, -1):
            self.assertEqual((run.situation, run.tags), (situations[left], tags[:left]))
            self.assertEqual(run.told, told[:sum(tag[0] == "+" for tag in tags[:left])])
            if left:
                self.assertEqual(run.back(), left - 1)
        for k in range(len(tags) + 1):
            first = run.take(*tags[:k])
            ahead = run.ahead(*tags[k:])
            self.assertEqual((first + ahead, run.tags), (told, tags[:k]))
            self.assertEqual((first + run.take_all(tags[k:]), run.tags), (told, tags))
            self.assertEqual(run.back(len(tags)), 0)

    def test_words(self):
        run = Run(FIRST)
        run.take("+b", "+a", "+b", "-b", "+a")
        self.assertEqual((run.open_word, run.placed, run.situation), (("b", "a", "a"), (1,), (1, (1,))))

    def test_moved_bookmarks(self):
        """A bookmark that is put somewhere is taken from where it lay; the root's closing takes all."""
        opens = ((("x", 1, 0),),)
        machine = (("a",), True, 2, opens, ((((2, 0), (1, 0), (2, 0), (3, 0)),),))
        run = Run(machine)
        run.take("+a", "+a", "+a")
        self.assertEqual(run.placed, (2, None))
        run("-")
        self.assertEqual((run.placed, run.situation), ((1, None), (0, (0, None))))
        run("+a")
        self.assertEqual(run.placed, (3, None))
        run.take("-", "-")
        self.assertEqual(run.placed, (0, None))
        run("-")
        self.assertEqual((run.placed, run.situation), ((None, None), (0, (None, None))))

    def test_large(self):
        for machine in GREAT:
            plain_one = PlainRun(machine)
            tags = tags_for(machine, WIDE)
            for tag in tags:
                plain_one.read(tag)
            check_same(self, colours_told(machine, WIDE), tuple(plain_one.told))
            run = Run(machine)
            check_same(self, run.take_all(tags), tuple(plain_one.told))
            self.assertEqual((run.back(9999), len(run.told)), (1, 1))
            check_same(self, colours_told(machine, DEEP), Run(machine).take_all(tags_for(machine, DEEP)))
            self.assertEqual(run.situation, situation_after(machine, tags[:1]))
        run = Run(FIRST)
        run.take_all(DEEP.tags[:5000])
        self.assertEqual((run.situation, run.placed), ((1, (4999,)), (0,)))


class Wrong(unittest.TestCase):
    """first_wrong, colours_told"""

    def test_first_wrong(self):
        for machine in ALL:
            for query in (BELOW, EVEN):
                machine = with_colours(machine, query[3][:2])
                for tree in trees(AB, 3):
                    document = document_of(tree)
                    wanted = [plain_colour(query, path) for path in paths_of(tree)]
                    told = colours_told(machine, document)
                    wrong = [k for k, colour in enumerate(wanted) if colour != told[k]]
                    self.assertEqual(first_wrong(machine, query, document), wrong[0] if wrong else None)

    def test_right(self):
        for tree in trees(AB, 5):
            self.assertIsNone(first_wrong(FIRST, BELOW, document_of(tree)))
        found = {first_wrong(FIRST, CHILD, document_of(tree)) for tree in trees(AB, 4)}
        self.assertTrue(found >= {None, 1, 2}, found)

    def test_errors(self):
        other = Document.read("b(c)")
        for machine in NOT_MACHINES[::9]:
            check_raises(self, InvalidMachine, first_wrong, machine, None, None)
            check_raises(self, InvalidMachine, colours_told, machine, None)
            check_raises(self, InvalidMachine, situation_after, machine, None)
            check_raises(self, InvalidMachine, Run, machine)
        for query in NOT_QUERIES[::5]:
            check_raises(self, InvalidQuery, first_wrong, FIRST, query, None)
        labels = (("a", "c"),) + BELOW[1:]
        check_raises(self, InvalidOperation, first_wrong, FIRST, labels, TREE)
        check_raises(self, InvalidOperation, first_wrong, FIRST, labels, None)
        check_raises(self, InvalidQuery, first_wrong, FIRST, labels[:3], None)
        for document in NOT_DOCUMENTS + (other,):
            check_raises(self, InvalidDocument, first_wrong, FIRST, BELOW, document)
            check_raises(self, InvalidDocument, colours_told, FIRST, document)


class Runs(unittest.TestCase):

    def test_bad_tags(self):
        for machine in (FIRST, RANDOM[4]):
            close = "-" if machine[1] else "-b"
            run = Run(machine)
            run.take("+b", "+b", close)
            before, situation = run.branch(), run.situation
            for value in WRONG + ("", "-a", "+c", "--", "+", "-c", "a"):
                if value in ("+a", close):
                    continue
                for call in (run, run.take, run.ahead):
                    check_keeps(self, BadTag, "position", 3, call, value)
                check_keeps(self, BadTag, "position", 5, run.take, "+a", "+b", value)
                check_keeps(self, BadTag, "position", 5, run.ahead, "+a", "+b", value, "+a")
                check_keeps(self, BadTag, "position", 4, run.take_all, ("+b", value))
                check_keeps(self, BadTag, "position", 1, situation_after, machine, ("+b", value))
                if not isinstance(value, tuple):
                    check_keeps(self, BadTag, "position", 3, run.take_all, value)
                    check_keeps(self, BadTag, "position", 0, situation_after, machine, value)
            check_keeps(self, BadTag, "position", 4, run.take, close, "+a")
            self.assertIs(run == before, True)
            self.assertEqual((run.situation, run[3]), (situation, situation))
            self.assertEqual((run.take(), run.ahead(), run.take_all(())), ((), (), ()))

    def test_node_5001(self):
        for document in LARGE:
            tags = document.tags[:-1]
            run = Run(FIRST)
            run.take_all(tags)
            for call in (run, run.take, run.ahead):
                check_keeps(self, BadTag, "position", 9999, call, "+a")
            check_keeps(self, BadTag, "position", 9999, situation_after, FIRST, tags + ("+a",))
            self.assertEqual((run.ahead(document.tags[-1]), bool(run)), ((), False))
            self.assertEqual((run(document.tags[-1]), bool(run)), (None, True))
            check_keeps(self, BadTag, "position", 10000, run, "+a")

    def test_back(self):
        run = Run(FIRST)
        run.take("+b", "+a", "-a")
        for many in NOT_NUMBERS:
            check_keeps(self, InvalidNumber, "value", many, run.back, many)
        for many in (4, 10 ** 59):
            check_keeps(self, NothingToUndo, "many", many, run.back, many)
        self.assertEqual((run.back(0), run.back(many=2), run.back(), run.back(0)), (3, 1, 0, 0))
        check_keeps(self, NothingToUndo, "many", 1, run.back)

    def test_counts(self):
        run = Run(FIRST)
        run.take("+b", "+a")
        for count in [v for v in WRONG if not (type(v) is int and 0 <= v <= 2)] + [3, -1]:
            check_keeps(self, InvalidNumber, "value", count, run.__getitem__, count)
        self.assertRaises(TypeError, iter, run)
        self.assertRaises(TypeError, list, run)
        self.assertEqual([run[k] for k in range(3)], [(0, (None,)), (0, (None,)), (1, (0,))])

    def test_branch(self):
        run = Run(FIRST)
        run.take("+b", "+a")
        other = run.branch()
        self.assertIs(type(other), Run)
        self.assertIs(other == run, True)
        other.take("-a", "+b")
        self.assertEqual((run.tags, other.tags, run.told, other.told),
                         (("+b", "+a"), ("+b", "+a", "-a", "+b"), ("no", "no"), ("no", "no", "no")))
        run.back(2)
        self.assertEqual((run.situation, other.situation, len(other)), ((0, (None,)), (0, (None,)), 4))
        self.assertEqual((other.open_word, run.open_word), (("b", "b"), ()))
        self.assertEqual(run.machine, FIRST)

    def test_equal(self):
        runs = []
        for machine in (FIRST, RANDOM[1], RANDOM[4]):
            for tags in ((), ("+a",), ("+b",), ("+a", "+b")):
                run = Run(machine)
                run.take_all(tags)
                runs.append(run)
        for k, one in enumerate(runs):
            for j, other in enumerate(runs):
                self.assertIs(one == other, k == j)
                self.assertIs(one != other, k != j)
            for value in WRONG + (FIRST, (), ("+a",)):
                self.assertIs(one == value, False)


if __name__ == "__main__":
    unittest.main()
