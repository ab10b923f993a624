import unittest
from inspect import signature
from itertools import product
from random import Random

from openmarks.documents.documents import Document
from openmarks.errors import InvalidDocument, InvalidMachine, InvalidOperation, TooMany
from openmarks.machines.comparing import (
    differences, is_same_paper, recoloured_machine, same_paper, side_by_side, tell_same)
from openmarks.machines.following import flat_machine
from openmarks.machines.machines import colours_told, is_machine, situation_after
from openmarks.machines.rightness import is_right
from samples import (
    AB, BELOW, BOOLEANS, CHILD, EVEN, FIRST, NOT_DOCUMENTS, NOT_MACHINES, TREE, WRONG, check_keeps, check_raises,
    first_of, random_machine, with_part)
from test_documents import DEEP, document_of
from test_rightness import doubling
from test_streams import trees

SOURCE = Random(120)
ONE = (("a",), True, 0, ((("x", 0, 0),),), ((((0, 0),),),))
TWO = (("a",), True, 0, ((("x", 0, 1),), (("y", 0, 1),)), ((((0, 1),),), (((0, 1),),)))
SMALL = [
    [random_machine(SOURCE, SOURCE.randint(1, 3), SOURCE.choice((0, 1)), k % 2 > 0, AB) for _ in range(2)]
    for k in range(30)]
GREATER = [
    [random_machine(SOURCE, SOURCE.randint(1, 6), SOURCE.choice((0, 1, 2)), k % 2 > 0, AB) for _ in range(2)]
    for k in range(10)]


def plain(machine, colour="x"):
    """The machine that tells one colour only."""
    return with_part(machine, tuple(tuple((colour,) + e[1:] for e in row) for row in machine[3]), 3)


def shuffled(machine, states):
    """A machine that does the same, with the states in another order and some states twice."""
    many = len(machine[3])
    order = list(range(1, many)) + [SOURCE.randrange(many) for _ in range(states)]
    SOURCE.shuffle(order)
    order = [0] + order
    places = {old: [k for k, one in enumerate(order) if one == old] for old in range(many)}
    new = lambda state: SOURCE.choice(places[state])
    opens = tuple(tuple((c, p, new(n)) for c, p, n in machine[3][old]) for old in order)
    closes = tuple(tuple(tuple((p, new(n)) for p, n in entry) for entry in machine[4][old]) for old in order)
    return machine[:3] + (opens, closes)


EQUAL = [(one, shuffled(one, 2)) for one, _ in SMALL[:20]] + [
    (plain(one), plain(other)) for one, other in SMALL[:16] + GREATER[:4]]
PAIRS = SMALL + GREATER + EQUAL + [(ONE, TWO), (FIRST, FIRST), (FIRST, flat_machine(BELOW))]


def plain_table(first, second):
    """[12.2], followed word by word until nothing is new."""
    opens, closes = (first[3], second[3]), (first[4], second[4])
    named = not first[1]
    table = {}

    def opened(g, h, k):
        (_, placed, after), (_, later, behind) = opens[0][g][k], opens[1][h][k]
        visit = (after, placed, behind, later)
        table.setdefault(visit, {(after, placed, placed, behind, later, later)})
        return visit

    def marks(stand, child, side, put):
        on, taken, gone = stand[1], stand[2], child[2]
        return on & ~gone | put, taken | gone | put

    many = None
    while many != (len(table), sum(map(len, table.values()))):
        many = len(table), sum(map(len, table.values()))
        for k in range(len(first[0])):
            opened(0, 0, k)
        for visit in list(table):
            for stand in list(table[visit]):
                for k in range(len(first[0])):
                    for child in list(table[opened(stand[0], stand[3], k)]):
                        new = ()
                        for side in (0, 1):
                            mine, its = stand[3 * side:3 * side + 3], child[3 * side:3 * side + 3]
                            put, after = closes[side][its[0]][k if named else 0][its[1]]
                            new += (after,) + marks(mine, its, side, put)
                        table[visit].add(new)
    return tuple(sorted((visit, tuple(sorted(stands))) for visit, stands in table.items()))


class Form(unittest.TestCase):

    def test_parameters(self):
        wanted = {
            same_paper: "(first, second)", is_same_paper: "(first, second, value)", tell_same: "(first, second)",
            differences: "(first, second, document)", recoloured_machine: "(machine, colours)",
            side_by_side: "(first, second, colours)",
        }
        for call, form in wanted.items():
            self.assertEqual((str(signature(call)), call.__module__), (form, "openmarks.machines.comparing"))

    def test_examples(self):
        self.assertIs(tell_same(ONE, TWO), False)
        self.assertIs(is_same_paper(ONE, TWO, ("differ", Document.read("a(a)"))), True)
        self.assertEqual(list(differences(ONE, TWO, Document.read("a(a a)"))), [(1, "x", "y"), (2, "x", "y")])
        one = recoloured_machine(TWO, {"y": "x"})
        self.assertIs(is_same_paper(ONE, one, ("same", (((0, 0, 1, 0), ((0, 0, 0, 1, 0, 0),)),))), True)


class Same(unittest.TestCase):
    """[12.1] to [12.3]"""

    def test_papers(self):
        documents = [document_of(tree) for tree in trees(AB, 4)]
        found = set()
        for first, second in PAIRS:
            paper = same_paper(first, second)
            same = tell_same(first, second)
            self.assertIs(type(same), bool)
            self.assertEqual(paper[0], "same" if same else "differ")
            self.assertIs(is_same_paper(first, second, paper), True)
            some = [one for one in documents if set(one.labels) <= set(first[0])]
            unlike = [one for one in some if colours_told(first, one) != colours_told(second, one)]
            if same:
                self.assertEqual(unlike, [])
                if sum(len(stands) for _, stands in paper[1]) < 1000:
                    self.assertEqual(paper[1], plain_table(first, second))
            elif unlike:
                self.assertEqual(len(paper[1]), min(map(len, unlike)))
            for one in some[::9]:
                self.assertIs(is_same_paper(first, second, ("differ", one)), one in unlike)
            found.add((same, len(paper[1]) if not same else 0))
        self.assertGreaterEqual(found, {(True, 0), (False, 1), (False, 2), (False, 3)})
        for first, second in EQUAL:
            self.assertIs(tell_same(first, second), True)

    def test_differences(self):
        documents = [document_of(tree) for tree in trees(AB, 4)[::7]] + [TREE]
        for first, second in PAIRS:
            for one in documents:
                if set(one.labels) <= set(first[0]):
                    told = zip(colours_told(first, one), colours_told(second, one))
                    wanted = [(k, x, y) for k, (x, y) in enumerate(told) if x != y]
                    self.assertEqual(list(differences(first, second, one)), wanted)

    def test_doubling(self):
        """The smallest document on which they differ has 2 ** (kind + 1) nodes."""
        for kind in (1, 5, 11, 12):
            first = doubling(kind)
            second = recoloured_machine(first, {"y": "z"})
            self.assertIs(tell_same(first, second), False)
            if kind == 12:
                check_keeps(self, TooMany, "limit", 5000, same_paper, first, second)
            else:
                self.assertEqual(len(same_paper(first, second)[1]), 2 ** (kind + 1))

    def test_too_many(self):
        def ring(states, other):
            opens = tuple((("x", 0, k), ("x", 0, (k + 1) % states)) for k in range(states))
            closes = tuple((((0, (k + 1) % states),),) for k in range(states))
            return (AB, True, 0, opens, closes)
        for first, second in ((11, 12), (11, 13), (1, 141), (1, 142), (300, 299)):
            one, other = ring(first, 0), ring(second, 0)
            if (first * second) ** 2 <= 20000:
                paper = same_paper(one, other)
                self.assertEqual(sum(len(stands) for _, stands in paper[1]), (first * second) ** 2)
                self.assertIs(is_same_paper(one, other, paper), True)
            else:
                for two in (other, plain(other, "y")):
                    check_keeps(self, TooMany, "limit", 20000, same_paper, one, two)
                    check_keeps(self, TooMany, "limit", 20000, tell_same, one, two)
                self.assertIs(is_same_paper(one, other, None), False)
                self.assertIs(is_same_paper(one, plain(other, "y"), ("differ", TREE)), True)


class Papers(unittest.TestCase):

    def test_changed_tables(self):
        """What is left out is missed, and what is more must be followed, too."""
        many = whole = 0
        for first, second in EQUAL[::2]:
            table = plain_table(first, second)
            if sum(len(stands) for _, stands in table) > 120:
                continue
            many += 1
            sets = [range(1 << machine[2]) for machine in (first, second)]
            for k, (visit, stands) in enumerate(table[:8]):
                less = table[:k] + table[k + 1:]
                self.assertIs(is_same_paper(first, second, ("same", less)), False)
                for j in range(len(stands))[:5]:
                    less = with_part(table, (visit, stands[:j] + stands[j + 1:]), k)
                    wanted = self.closed(first, second, less)
                    self.assertIs(is_same_paper(first, second, ("same", less)), wanted)
            if len(first[3]) * len(second[3]) * 16 ** max(first[2], second[2]) < 30:
                whole += 1
                stands = tuple(product(range(len(first[3])), sets[0], sets[0], range(len(second[3])), sets[1], sets[1]))
                visits = product(range(len(first[3])), sets[0], range(len(second[3])), sets[1])
                every = tuple((visit, stands) for visit in visits)
                wanted = self.closed(first, second, every)
                self.assertIs(is_same_paper(first, second, ("same", every)), wanted)
        self.assertGreater(min(many, whole), 5)

    def closed(self, first, second, table):
        known = dict(table)
        def opening(g, h, k):
            (x, placed, after), (y, later, behind) = first[3][g][k], second[3][h][k]
            return x == y, (after, placed, behind, later)
        columns = range(len(first[0]))
        for k in columns:
            same, visit = opening(0, 0, k)
            if not same or visit not in known:
                return False
        for visit, stands in table:
            if (visit[0], visit[1], visit[1], visit[2], visit[3], visit[3]) not in stands:
                return False
            for stand in stands:
                for k in columns:
                    same, child = opening(stand[0], stand[3], k)
                    if not same or child not in known:
                        return False
                    for its in known[child]:
                        new = ()
                        for side, machine in ((0, first), (3, second)):
                            put, after = machine[4][its[side]][0 if machine[1] else k][its[side + 1]]
                            gone = its[side + 2]
                            new += (after, stand[side + 1] & ~gone | put, stand[side + 2] | gone | put)
                        if new not in stands:
                            return False
        return True

    def test_wrong_values(self):
        same = recoloured_machine(TWO, {"y": "x"})
        table = (((0, 0, 1, 0), ((0, 0, 0, 1, 0, 0),)),)
        visit, stands = table[0]
        others = [
            ("same",), ("same", table, ()), ["same", table], ("differ", table), ("same", list(table)), (table, "same"),
            ("same", ()), ("same", (list(table[0]),)), ("same", table * 2), ("same", (table[0] + (0,),)),
            ("same", ((list(visit), stands),)), ("same", ((visit, list(stands)),)), ("same", ((visit, ()),)),
            ("same", ((visit, stands * 2),)), ("same", ((visit, (list(stands[0]),)),)), ("same", ((visit[:3], stands),)),
            ("same", ((visit + (0,), stands),)), ("same", ((visit, (stands[0][:5],)),)), ("same", None), ("same", TREE),
            ("differ", Document.read("a(a)")), ("differ", Document.read("b")), ("differ", None), ("differ", "a(a)"),
            ("same", ((visit, stands + ((0, 0, 0, 2, 0, 0),)),))]
        for part in (None, True, False, -1, 2, 1, 10 ** 59, "a", (), [], {}, TREE):
            for k in range(4):
                if visit[k] != part or type(part) is bool:
                    others.append(("same", ((with_part(visit, part, k), stands),)))
                    others.append(("same", table + ((with_part(visit, part, k), stands),)) if part != 0 else None)
            for k in range(6):
                if stands[0][k] != part or type(part) is bool:
                    others.append(("same", ((visit, (with_part(stands[0], part, k),)),)))
        for value in others + list(WRONG):
            self.assertIs(is_same_paper(ONE, same, value), False, value)
        self.assertIs(is_same_paper(ONE, same, ("same", table)), True)
        for visit, stands in (((0, 1, 1, 0), ((0, 1, 1, 1, 0, 0),)), ((0, 0, 1, 1), ((0, 0, 0, 1, 1, 1),))):
            self.assertIs(is_same_paper(ONE, same, ("same", table + ((visit, stands),))), False)
        for stand in ((0, 1, 0, 1, 0, 0), (0, 0, 1, 1, 0, 0), (0, 0, 0, 1, 1, 0), (0, 0, 0, 1, 0, 1)):
            self.assertIs(is_same_paper(ONE, same, ("same", ((table[0][0], table[0][1] + (stand,)),))), False)
        more = (((0, 0, 0, 0), ((0, 0, 0, 0, 0, 0), (0, 0, 0, 1, 0, 0))), table[0])
        self.assertIs(is_same_paper(ONE, same, ("same", more)), True)
        self.assertIs(is_same_paper(ONE, same, ("same", more[::-1])), False)
        self.assertIs(is_same_paper(ONE, TWO, ("same", table)), False)


    def test_unlike_colours(self):
        """The joint table is a paper just if both machines tell equal colours at each opening."""
        root = (("a",), True, 0, ((("y", 0, 1),), (("x", 0, 1),)), ((((0, 1),),),) * 2)
        for first, second in SMALL + [(ONE, TWO), (TWO, TWO), (ONE, root), (root, ONE), (root, root)]:
            paper = ("same", plain_table(first, second))
            self.assertIs(is_same_paper(first, second, paper), tell_same(first, second))


class Recoloured(unittest.TestCase):

    def test_machines(self):
        documents = [document_of(tree) for tree in trees(AB, 3)]
        for colours in ({}, {"x": "y"}, {"x": "y", "y": "x"}, {"x": "x", "z": "zz"}, {"q": "x"}):
            before = dict(colours)
            for first, _ in SMALL[::4]:
                machine = recoloured_machine(first, colours)
                self.assertIs(is_machine(machine), True)
                self.assertEqual(machine[:3] + machine[4:], first[:3] + first[4:])
                for one in documents:
                    wanted = tuple(colours.get(colour, colour) for colour in colours_told(first, one))
                    self.assertEqual(colours_told(machine, one), wanted)
            self.assertEqual(colours, before)

    def test_errors(self):
        for machine in NOT_MACHINES[::11]:
            check_raises(self, InvalidMachine, recoloured_machine, machine, None)
        others = [v for v in WRONG if v != {} and v != {"a": "b"}] + [
            {"x": "Y"}, {"x": None}, {"x": ["y"]}, {"x": "y", "": "x"}, {"a" * 9: "x"}, {0: "x"}, {None: "x"},
            {("x", "y"): "x"}, {"x": "y", "q": 0}, [("x", "y")], {"+a": "x"}]
        for colours in others:
            check_raises(self, InvalidOperation, recoloured_machine, FIRST, colours)


class SideBySide(unittest.TestCase):

    def colours(self, first, second):
        told = [sorted({e[0] for row in machine[3] for e in row}) for machine in (first, second)]
        return {(x, y): x + "q" + y for x, y in product(*told)}

    def test_runs(self):
        documents = [document_of(tree) for tree in trees(AB, 4)[::3]]
        for first, second in SMALL + GREATER + [(FIRST, flat_machine(CHILD))]:
            colours = self.colours(first, second)
            if first[2] + second[2] > 3:
                check_keeps(self, TooMany, "limit", 3, side_by_side, first, second, colours)
                continue
            machine = side_by_side(first, second, colours)
            self.assertIs(is_machine(machine), True)
            self.assertEqual(machine[:3], (AB, first[1], first[2] + second[2]))
            many = len(second[3])
            self.assertEqual(len(machine[3]), len(first[3]) * many)
            for one in documents:
                told = zip(colours_told(first, one), colours_told(second, one))
                self.assertEqual(colours_told(machine, one), tuple(x + "q" + y for x, y in told))
                tags = one.plain_tags if first[1] else one.tags
                for end in range(0, len(tags), 2):
                    (g, heights), (h, others) = situation_after(first, tags[:end]), situation_after(second, tags[:end])
                    self.assertEqual(situation_after(machine, tags[:end]), (g * many + h, heights + others))

    def test_entries(self):
        """Each entry is as the document says, also where no document leads."""
        for first, second in SMALL[:12]:
            machine = side_by_side(first, second, self.colours(first, second))
            many, shift = len(second[3]), first[2]
            for g, h in product(range(len(first[3])), range(many)):
                for k in range(2):
                    (x, p, n), (y, q, o) = first[3][g][k], second[3][h][k]
                    self.assertEqual(machine[3][g * many + h][k], (x + "q" + y, p + (q << shift), n * many + o))
                for k in range(len(first[4][0])):
                    for on in range(1 << machine[2]):
                        p, n = first[4][g][k][on % (1 << shift)]
                        q, o = second[4][h][k][on >> shift]
                        self.assertEqual(machine[4][g * many + h][k][on], (p + (q << shift), n * many + o))

    def test_right(self):
        """Two right machines tell the colours of both queries."""
        colours = {(x, y): x + y for x, y in product(("no", "yes"), ("no", "yes"))}
        machine = side_by_side(flat_machine(CHILD), FIRST, colours)
        rows = ((1, 3), (2, 3), (2, 3), (4, 3), (4, 3))
        self.assertEqual((machine[2], len(rows)), (2, 5))
        document = Document.read("b(a(b b) b)")
        self.assertEqual(colours_told(machine, document), ("nono", "yesno", "noyes", "noyes", "yesno"))

    def test_colours(self):
        first, second = TWO, recoloured_machine(TWO, {"y": "z"})
        needed = {("x", "x"): "a", ("x", "z"): "b", ("y", "x"): "c", ("y", "z"): "d"}
        self.assertEqual(side_by_side(first, second, needed)[3][3], (("d", 0, 3),))
        more = dict(needed)
        more["q", "q"] = "e"
        self.assertEqual(side_by_side(first, second, more), side_by_side(first, second, needed))
        self.assertEqual(len(more), 5)
        others = [v for v in WRONG] + [
            {**needed, ("x",): "a"}, {**needed, ("x", "x", "x"): "a"}, {**needed, "x": "a"}, {**needed, ("x", "Q"): "a"},
            {**needed, ("x", None): "a"}, {**needed, ("q", "q"): "Q"}, {**needed, ("q", "q"): None}, list(needed),
            {**needed, ("x", "x"): ["a"]}, {**needed, None: "a"}, {**needed, 0: "a"}]
        for pair in needed:
            others.append({key: worth for key, worth in needed.items() if key != pair})
        for colours in others:
            check_raises(self, InvalidOperation, side_by_side, first, second, colours)

    def test_limits(self):
        def rows(states, marks):
            entry = ((0, 0),) * 2 ** marks
            return (("a",), True, marks, ((("x", 0, 0),),) * states, ((entry,),) * states)
        colours = {("x", "x"): "x"}
        for one, two in ((0, 3), (3, 0), (1, 2), (2, 2), (3, 3), (1, 3)):
            for first, second in ((10, 30), (300, 1), (7, 43), (301 // 2, 2), (151, 2), (300, 300)):
                call = (side_by_side, rows(first, one), rows(second, two), colours)
                if one + two > 3:
                    check_keeps(self, TooMany, "limit", 3, *call)
                    check_raises(self, InvalidOperation, *call[:3], {})
                elif first * second > 300:
                    check_keeps(self, TooMany, "limit", 300, *call)
                    check_raises(self, InvalidOperation, *call[:3], {})
                else:
                    self.assertEqual(len(side_by_side(*call[1:])[3]), first * second)


class Errors(unittest.TestCase):

    def test_machines(self):
        calls = (same_paper, tell_same, lambda first, second: is_same_paper(first, second, None),
                 lambda first, second: next(differences(first, second, None)),
                 lambda first, second: side_by_side(first, second, None))
        named = FIRST
        closed = random_machine(Random(1), 2, 1, True, AB)
        others = random_machine(Random(1), 2, 1, False, ("a", "c"))
        for call in calls:
            for machine in NOT_MACHINES[::11]:
                check_raises(self, InvalidMachine, call, machine, None)
                check_raises(self, InvalidMachine, call, FIRST, machine)
                check_raises(self, InvalidMachine, call, closed, machine)
            for pair in ((named, closed), (closed, named), (named, others), (others, named)):
                check_raises(self, InvalidOperation, call, *pair)

    def test_documents(self):
        for document in NOT_DOCUMENTS + (Document.read("b(c)"),):
            check_raises(self, InvalidDocument, first_of(differences), FIRST, FIRST, document)

    def test_marks_may_differ(self):
        found = [is_right(flat_machine(query), query) for query in (BELOW, EVEN)]
        self.assertEqual(found, [True, True])
        self.assertIs(tell_same(flat_machine(BELOW), flat_machine(EVEN)), False)
        self.assertEqual(len(list(differences(FIRST, FIRST, DEEP))), 0)
        for value in BOOLEANS:
            self.assertIs(tell_same(flat_machine(CHILD, plain=value), flat_machine(CHILD, plain=value)), True)


if __name__ == "__main__":
    unittest.main()
