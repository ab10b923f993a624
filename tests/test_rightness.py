import unittest
from inspect import signature
from random import Random

from openmarks.documents.documents import Document
from openmarks.errors import InvalidMachine, InvalidOperation, InvalidQuery, TooMany
from openmarks.machines import rightness
from openmarks.machines.following import flat_machine
from openmarks.machines.machines import colours_told, first_wrong
from openmarks.machines.rightness import (
    MAX_STANDS, confusions, error_document, is_right, is_rightness_paper, rightness_paper, table_of)
from openmarks.queries.colouring import colours_of
from openmarks.queries.queries import least_query
from samples import (
    AB, BELOW, CHILD, EVEN, FIRST, NOT_MACHINES, NOT_QUERIES, TREE, UNDER, WRONG, check_keeps, check_raises, first_of,
    random_machine, random_query, with_part)
from test_documents import document_of
from test_streams import trees

SOURCE = Random(100)
ANY = (AB, (0, 0), ((0, 0),), ("x",))


def cases(many, states, marks):
    found = []
    for k in range(many):
        machine = random_machine(SOURCE, SOURCE.randint(1, states), SOURCE.choice(marks), k % 2 > 0, AB)
        found.append((machine, random_query(SOURCE, 4, AB, "xy")))
    return found


SMALL = cases(60, 3, (0, 1)) + cases(20, 2, (2, 3))
GREATER = cases(60, 12, (0, 1, 2)) + cases(20, 4, (3,))
# Tells another colour behind so many closed children only.
COUNTERS = {
    n: (("a",), True, 0, tuple((("x", 0, k),) for k in range(n)) + ((("y", 0, n),),),
        tuple((((0, min(k + 1, n)),),) for k in range(n + 1)))
    for n in (0, 1, 2, 5, 60)}
ONE = (("a",), (0,), ((0,),), ("x",))


def plain_table(machine, query):
    """[10.2], followed word by word until nothing is new."""
    labels, plain, marks, opens, closes = machine
    _, roots, rows, _ = least_query(query)
    table = {}

    def opened(p, entry):
        table.setdefault((p, entry[2], entry[1]), {(entry[2], entry[1], entry[1])})

    for k, entry in enumerate(opens[0]):
        opened(roots[k], entry)
    many = None
    while many != (len(table), sum(map(len, table.values()))):
        many = len(table), sum(map(len, table.values()))
        for visit in list(table):
            for h, on, taken in list(table[visit]):
                for k, (_, placed, after) in enumerate(opens[h]):
                    child = rows[visit[0]][k]
                    opened(child, opens[h][k])
                    for h2, on2, taken2 in list(table[child, after, placed]):
                        put, h3 = closes[h2][0 if plain else k][on2]
                        table[visit].add((h3, on - (on & taken2) | put, taken | taken2 | put))
    return tuple(sorted((visit, tuple(sorted(stands))) for visit, stands in table.items()))


def seen_on(machine, query, document):
    """The visits and stands on one document, by a simulation with the bookmarks on the nodes."""
    labels, plain, marks, opens, closes = machine
    least = least_query(query)
    state, path, found = 0, [], set()
    for tag in document.tags:
        if tag[0] == "+":
            k = labels.index(tag[1:])
            p = least[1][k] if not path else least[2][path[-1]["visit"][0]][k]
            _, placed, state = opens[state][k]
            for node in path:
                node["on"] -= node["on"] & placed
                node["taken"] |= placed
            path.append({"visit": (p, state, placed), "on": placed, "taken": placed})
        else:
            node = path.pop()
            put, state = closes[state][0 if plain else labels.index(tag[1:])][node["on"]]
            for one in path:
                one["on"] -= one["on"] & put
                one["taken"] |= put
            if path:
                path[-1]["on"] |= put
        if path:
            found.add((path[-1]["visit"], (state, path[-1]["on"], path[-1]["taken"])))
    return found


def plain_closed(machine, query, table):
    """Whether the table is closed and tells the right colours, by the words of [10.4]."""
    labels, plain, marks, opens, closes = machine
    _, roots, rows, colours = least_query(query)
    known = dict(table)
    for k, (colour, placed, after) in enumerate(opens[0]):
        if colour != colours[roots[k]] or (roots[k], after, placed) not in known:
            return False
    for (p, g, placed), stands in table:
        if (g, placed, placed) not in stands:
            return False
        for h, on, taken in stands:
            for k, (colour, put, after) in enumerate(opens[h]):
                child = (rows[p][k], after, put)
                if colour != colours[child[0]] or child not in known:
                    return False
                for h2, on2, taken2 in known[child]:
                    put2, h3 = closes[h2][0 if plain else k][on2]
                    if (h3, on & ~taken2 | put2, taken | taken2 | put2) not in stands:
                        return False
    return True


class Form(unittest.TestCase):

    def test_parameters(self):
        for call in (table_of, is_right, rightness_paper, error_document, confusions):
            self.assertEqual(str(signature(call)), "(machine, query)")
        self.assertEqual(str(signature(is_rightness_paper)), "(machine, query, value)")
        self.assertEqual((MAX_STANDS, rightness.MAX_STANDS), (20000, 20000))

    def test_examples(self):
        self.assertIs(is_right(FIRST, BELOW), True)
        self.assertEqual(
            table_of(FIRST, BELOW)[:2], (((0, 1, 1), ((1, 1, 1),)), ((1, 0, 0), ((0, 0, 0), (0, 0, 1)))))
        self.assertEqual(len(error_document(FIRST, CHILD)), 2)
        self.assertEqual(
            list(confusions(FIRST, CHILD)), [("no", "no"), ("no", "yes"), ("yes", "no"), ("yes", "yes")])


class Table(unittest.TestCase):
    """[10.2], [10.3]"""

    def test_tables(self):
        for machine, query in SMALL + GREATER + [(FIRST, BELOW), (FIRST, CHILD), (FIRST, UNDER)]:
            self.assertEqual(table_of(machine, query), plain_table(machine, query))

    def test_documents(self):
        """All that documents show is in the table, and where they show enough, nothing else is."""
        documents = [document_of(tree) for tree in trees(AB, 5)]
        whole = 0
        for machine, query in SMALL[:30] + [(FIRST, BELOW)]:
            table = {(visit, stand) for visit, stands in table_of(machine, query) for stand in stands}
            found = set()
            for document in documents:
                found |= seen_on(machine, query, document)
            self.assertLessEqual(found, table)
            whole += found == table
        self.assertGreater(whole, 12)

    def test_limit(self):
        for states in (100, 140, 141, 142, 300):
            # Each state leads to each one, over a closing for each step.
            opens = tuple((("x", 0, k), ("x", 0, (k + 1) % states)) for k in range(states))
            closes = tuple((((0, (k + 1) % states),),) for k in range(states))
            machine = (AB, True, 0, opens, closes)
            if states * states <= 20000:
                table = table_of(machine, ANY)
                self.assertEqual((len(table), sum(len(stands) for _, stands in table)), (states, states ** 2))
                self.assertEqual((is_right(machine, ANY), error_document(machine, ANY)), (True, None))
                self.assertIs(is_rightness_paper(machine, ANY, ("right", table)), True)
            else:
                wrong = (AB, (0, 0), ((0, 0),), ("y",))
                for call in (table_of, is_right, rightness_paper, error_document, first_of(confusions)):
                    check_keeps(self, TooMany, "limit", 20000, call, machine, ANY)
                    check_keeps(self, TooMany, "limit", 20000, call, machine, wrong)
                self.assertIs(is_rightness_paper(machine, wrong, ("wrong", TREE)), True)
                if states < 200:
                    stands = tuple((h, 0, 0) for h in range(states))
                    table = tuple(((0, g, 0), stands) for g in range(states))
                    self.assertIs(is_rightness_paper(machine, ANY, ("right", table)), True)

    def test_just_20000(self):
        """Two groups of 100 states of 100 visits each; a third group has one state."""
        for third, right in ((False, True), (True, False)):
            groups = [range(1, 101), range(101, 201)] + ([range(201, 202)] if third else [range(101, 201)])
            opens = [tuple(("x", 0, group[0]) for group in groups)]
            closes = [((0, 0),)]
            for group in groups[:3 if third else 2]:
                for state in group:
                    after = group[(state + 1 - group[0]) % len(group)]
                    opens.append((("x", 0, state), ("x", 0, after), ("x", 0, after)))
                    closes.append(((0, after),))
            machine = (("a", "b", "c"), True, 0, tuple(opens), tuple((entry,) for entry in closes))
            query = (("a", "b", "c"), (0,) * 3, ((0,) * 3,), ("x",))
            if right:
                table = table_of(machine, query)
                self.assertEqual((len(table), sum(len(stands) for _, stands in table)), (200, 20000))
                self.assertIs(is_rightness_paper(machine, query, ("right", table)), True)
                self.assertEqual((is_right(machine, query), error_document(machine, query)), (True, None))
            else:
                for call in (table_of, is_right, error_document, rightness_paper, first_of(confusions)):
                    check_keeps(self, TooMany, "limit", 20000, call, machine, query)


class Right(unittest.TestCase):
    """[10.3], [10.4]"""

    def test_answers(self):
        documents = [document_of(tree) for tree in trees(AB, 4)]
        found = set()
        for machine, query in SMALL + GREATER + self.flat():
            right = is_right(machine, query)
            paper = rightness_paper(machine, query)
            self.assertIs(type(right), bool)
            self.assertEqual(paper[0], "right" if right else "wrong")
            self.assertIs(is_rightness_paper(machine, query, paper), True)
            document = error_document(machine, query)
            wrong = [one for one in documents if first_wrong(machine, query, one) is not None]
            if right:
                self.assertIsNone(document)
                self.assertEqual((wrong, paper[1]), ([], table_of(machine, query)))
            else:
                self.assertEqual(first_wrong(machine, query, document), len(document) - 1)
                if wrong or len(document) < 5:
                    self.assertEqual(len(document), min(map(len, wrong)))
                found.add(len(document))
            seen = set()
            for one in documents:
                seen |= set(zip(colours_of(query, one), colours_told(machine, one)))
            told = list(confusions(machine, query))
            self.assertEqual(told, sorted(set(told)))
            self.assertLessEqual(seen, set(told))
            self.assertEqual(right, all(x == y for x, y in told))
        self.assertGreaterEqual(found, {1, 2, 3})

    def flat(self):
        machines = [flat_machine(query, plain=plain) for query in (CHILD, BELOW, ANY) for plain in (True, False)]
        found = [(machine, query) for machine in machines for query in (CHILD, BELOW, UNDER, ANY)]
        for machine in machines:
            # One entry is wrong; so it depends on the entry how great the smallest error is.
            for state in range(len(machine[3])):
                for k in range(2):
                    colour, placed, after = machine[3][state][k]
                    for entry in (("q", placed, after), (colour, placed, 0), (colour, 0, after)):
                        row = with_part(machine[3][state], entry, k)
                        found.append((with_part(machine, with_part(machine[3], row, state), 3), BELOW))
        return found

    def test_confusions(self):
        """Each pair occurs in some document."""
        documents = [document_of(tree) for tree in trees(AB, 5)]
        for machine, query in SMALL[:40:4] + [(FIRST, CHILD), (FIRST, UNDER)]:
            seen = set()
            for one in documents:
                seen |= set(zip(colours_of(query, one), colours_told(machine, one)))
            self.assertEqual(list(confusions(machine, query)), sorted(seen))

    def test_great_errors(self):
        for many, machine in COUNTERS.items():
            document = error_document(machine, ONE)
            self.assertEqual(len(document), many + 2 if many else 1)
            self.assertEqual(rightness_paper(machine, ONE)[0], "wrong")
        for kind in (1, 2, 3, 8, 11, 12, 13, 40):
            machine = doubling(kind)
            self.assertIs(is_right(machine, ANY), False)
            self.assertEqual(list(confusions(machine, ANY)), [("x", "x"), ("x", "y")])
            if kind > 11:
                check_keeps(self, TooMany, "limit", 5000, error_document, machine, ANY)
                check_keeps(self, TooMany, "limit", 5000, rightness_paper, machine, ANY)
            else:
                document = error_document(machine, ANY)
                self.assertEqual(first_wrong(machine, ANY, document), len(document) - 1)
                self.assertEqual(len(document), 2 ** (kind + 1))
                self.assertIs(is_rightness_paper(machine, ANY, ("wrong", document)), True)


def doubling(kind):
    """A machine that errs behind two children of the root that are whole.

    A node of kind 0 is whole, others are when they have a child a and a child b, both whole
    and of the kind below it. A state is a kind and the number of whole children.
    """
    number = {pair: 1 + k for k, pair in enumerate((k, done) for k in range(kind + 1) for done in range(3))}
    lost = len(number) + 1
    opens, closes = [(("x", 0, number[kind, 0]), ("x", 0, lost))], [(((0, lost),),) * 2]
    for k, done in number:
        whole = k == 0 or done == 2
        entries = [("y" if (k, done) == (kind, 2) else "x", 0, lost) for _ in AB]
        if not whole:
            entries[done] = ("x", 0, number[k - 1, 0])
        opens.append(tuple(entries))
        closes.append(tuple(((0, number[k + 1, d] if whole and k < kind else lost),) for d in (1, 2)))
    return (AB, False, 0, tuple(opens) + ((("x", 0, lost),) * 2,), tuple(closes) + ((((0, lost),),) * 2,))


class Papers(unittest.TestCase):
    """[10.4]"""

    def test_greater_tables(self):
        """Other closed tables are papers, too, and those from which something is missing are not."""
        machines = [(machine, query) for machine, query in SMALL + [(FIRST, BELOW), (FIRST, ANY)]]
        machines = [(tuple_with(machine, "x"), with_colour(query, "x")) for machine, query in machines[::2]] + [
            (FIRST, BELOW)]
        for machine, query in machines:
            least = least_query(query)
            table = table_of(machine, query)
            values = self.changed(table) + [table]
            if len(machine[3]) * 4 ** machine[2] * len(least[2]) <= 32:
                every = self.everything(machine, least)
                values += self.changed(every) + [every]
            for value in values:
                wanted = plain_closed(machine, query, value)
                self.assertIs(is_rightness_paper(machine, query, ("right", value)), wanted, value)
        self.assertIs(is_rightness_paper(FIRST, BELOW, ("right", table_of(FIRST, BELOW))), True)

    def everything(self, machine, least):
        """All visits with all stands."""
        sets = range(2 ** machine[2])
        stands = tuple((h, on, taken) for h in range(len(machine[3])) for on in sets for taken in sets)
        return tuple(
            ((p, g, placed), stands) for p in range(len(least[2])) for g in range(len(machine[3])) for placed in sets)

    def changed(self, table):
        found = []
        for k, (visit, stands) in enumerate(table[:12]):
            found.append(table[:k] + table[k + 1:])
            for j in range(len(stands))[:6]:
                found.append(with_part(table, (visit, stands[:j] + stands[j + 1:]), k))
        return found

    def test_wrong_values(self):
        table = table_of(FIRST, BELOW)
        visit, stands = table[1]
        others = [
            ("right",), ("right", table, ()), ["right", table], ("wrong", table), ("right", list(table)), (table, "right"),
            ("Right", table), (None, table), ("right", table[::-1]), ("right", table + table[-1:]),
            ("right", with_part(table, list(table[0]), 0)), ("right", with_part(table, table[0] + (0,), 0)),
            ("right", with_part(table, (list(visit), stands), 1)), ("right", with_part(table, (visit, list(stands)), 1)),
            ("right", with_part(table, (visit, stands[::-1]), 1)), ("right", with_part(table, (visit, stands[:1] * 2), 1)),
            ("right", with_part(table, (visit, stands[:1]), 1)), ("right", with_part(table, (visit, ()), 1)),
            ("right", with_part(table, (visit, stands + ((2, 0, 0),)), 1)), ("right", ()), ("right", TREE),
            ("wrong", TREE), ("wrong", Document.read("c")), ("wrong", str(TREE)), ("wrong", None), ("right", None),
            ("right", table[:1] + table)]
        for stand in (stands[0][:2], stands[0] + (0,), (), (0,), None, 0):
            others.append(("right", with_part(table, (visit, (stand,) + stands[1:]), 1)))
            others.append(("right", with_part(table, (visit, stands + (stand,)), 1)))
        for other in (visit[:2], visit + (0,), ()):
            others.append(("right", with_part(table, (other, stands), 1)))
            others.append(("right", ((other, stands),) + table))
        for part in (None, True, False, -1, 3, 2, 10 ** 59, "a", (), [], {}, TREE):
            for k in range(3):
                if visit[k] != part or type(part) is bool:
                    others.append(("right", with_part(table, (with_part(visit, part, k), stands), 1)))
                if stands[0][k] != part or type(part) is bool:
                    stand = with_part(stands[0], part, k)
                    others.append(("right", with_part(table, (visit, (stand,) + stands), 1)))
                    others.append(("right", with_part(table, (visit, stands + (stand,)), 1)))
                    others.append(("right", with_part(table, (visit, with_part(stands, stand, 0)), 1)))
        for value in others + list(WRONG):
            self.assertIs(is_rightness_paper(FIRST, BELOW, value), False, value)
        self.assertIs(is_rightness_paper(FIRST, BELOW, ("right", table)), True)
        more = with_part(table, (visit, stands + ((0, 1, 0),)), 1)
        self.assertIs(is_rightness_paper(FIRST, BELOW, ("right", more)), plain_closed(FIRST, BELOW, more))

    def test_wrong_colours(self):
        """The table of a machine is a paper just if the colour at each opening is right."""
        for machine, query in SMALL + GREATER[::4]:
            paper = ("right", table_of(machine, query))
            self.assertIs(is_rightness_paper(machine, query, paper), is_right(machine, query))
        for state in range(2):
            for k in range(2):
                row = with_part(FIRST[3][state], ("other",) + FIRST[3][state][k][1:], k)
                machine = with_part(FIRST, with_part(FIRST[3], row, state), 3)
                self.assertIs(is_rightness_paper(machine, BELOW, ("right", table_of(machine, BELOW))), False)
        # Only the root is told a wrong colour.
        machine = (("a",), True, 0, ((("y", 0, 1),), (("x", 0, 1),)), ((((0, 1),),),) * 2)
        self.assertIs(is_rightness_paper(machine, ONE, ("right", table_of(machine, ONE))), False)
        self.assertEqual(len(error_document(machine, ONE)), 1)

    def test_twice(self):
        """A visit stands once in a table, with all of its stands."""
        table = table_of(FIRST, BELOW)
        visit, stands = table[1]
        self.assertGreater(len(stands), 1)
        for less in (stands[:1], stands[1:]):
            both = tuple(sorted(table + ((visit, less),)))
            self.assertIs(is_rightness_paper(FIRST, BELOW, ("right", both)), False)

    def test_unreached(self):
        """Visits that no document has are judged like others, by their colours, too."""
        machine = (("a",), True, 0, ((("x", 0, 0),), (("y", 0, 1),)), ((((0, 0),),), (((0, 0),),)))
        table = (((0, 0, 0), ((0, 0, 0),)),)
        self.assertEqual(rightness_paper(machine, ONE), ("right", table))
        self.assertIs(is_rightness_paper(machine, ONE, ("right", table + (((0, 1, 0), ((1, 0, 0),)),))), False)
        self.assertIs(is_rightness_paper(machine, ONE, ("right", (((0, 0, 0), ((0, 0, 0), (1, 0, 0))),))), False)
        right = with_part(machine, ((("x", 0, 0),), (("x", 0, 1),)), 3)
        more = table + (((0, 1, 0), ((0, 0, 0), (1, 0, 0))),)
        self.assertIs(is_rightness_paper(right, ONE, ("right", more)), True)
        self.assertIs(is_rightness_paper(right, ONE, ("right", table + (((0, 1, 0), ((1, 0, 0),)),))), False)

    def test_documents(self):
        for machine, query in SMALL[::4]:
            for document in [document_of(tree) for tree in trees(AB, 3)]:
                wrong = first_wrong(machine, query, document) is not None
                self.assertIs(is_rightness_paper(machine, query, ("wrong", document)), wrong)

    def test_errors(self):
        calls = (table_of, is_right, rightness_paper, error_document, first_of(confusions),
                 lambda machine, query: is_rightness_paper(machine, query, None))
        other = (("a", "c"),) + BELOW[1:]
        for call in calls:
            for machine in NOT_MACHINES[::11]:
                check_raises(self, InvalidMachine, call, machine, None)
            for query in NOT_QUERIES[::9]:
                check_raises(self, InvalidQuery, call, FIRST, query)
            check_raises(self, InvalidOperation, call, FIRST, other)
            check_raises(self, InvalidQuery, call, FIRST, other[:3])

    def test_least(self):
        wide = (AB, (3, 1), ((2, 2), (3, 1), (2, 2), (2, 2)), ("no", "no", "yes", "no"))
        self.assertEqual(table_of(FIRST, wide), table_of(FIRST, BELOW))
        self.assertEqual(rightness_paper(FIRST, wide), rightness_paper(FIRST, BELOW))
        self.assertEqual(list(confusions(FIRST, EVEN)), sorted(list(confusions(FIRST, EVEN))))


def tuple_with(machine, colour):
    """The machine that tells one colour only."""
    opens = tuple(tuple((colour,) + entry[1:] for entry in row) for row in machine[3])
    return with_part(machine, opens, 3)


def with_colour(query, colour):
    return with_part(query, (colour,) * len(query[3]), 3)


if __name__ == "__main__":
    unittest.main()
