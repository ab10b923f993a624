import unittest
from inspect import signature
from itertools import product
from random import Random

from openmarks.documents.documents import Document
from openmarks.errors import InvalidChain, InvalidMachine, InvalidNumber, InvalidOperation, InvalidQuery, TooMany
from openmarks.gaps.levels import chain_states, marks_needed, number_paper
from openmarks.machines import descents as module
from openmarks.machines.descents import (
    MAX_COUNTS, MAX_DESCENT, clash_of, descent_word, descents, enough_counts, is_clash, is_split, situations_on,
    split_documents)
from openmarks.machines.machines import colours_told, situation_after
from openmarks.queries.colouring import colours_of
from openmarks.queries.queries import state_after
from samples import (
    AB, BELOW, BOOLEANS, CHILD, EVEN, FIRST, FOUR, NOT_MACHINES, NOT_NUMBERS, NOT_PLAIN, NOT_QUERIES, OBJECTS, TREE,
    UNDER, WRONG, check_keeps, check_raises, first_of, near_query, random_machine)

LINK = (("a",), ("a", "a"), ("a", "a"))
BLIND = (AB, False, 0, ((("no", 0, 0), ("no", 0, 0)),), ((((0, 0),), ((0, 0),)),))
PLAIN = (AB, True, 0, ((("no", 0, 0), ("no", 0, 0)),), ((((0, 0),),),))
STEPS = (AB, (1, 0), ((1, 0), (1, 2), (2, 2)), ("x", "y", "z"))
ODD = ((("b",), ("a",), ("b",)),)
SOURCE = Random(110)


def longest(query, plain):
    paper = number_paper(query, plain=plain)
    return paper[2] if paper[0] == "number" else None


def make_cases():
    """Machines with queries and their chains, perhaps without the last links."""
    found = [(BLIND, CHILD, (LINK,)), (FIRST, CHILD, (LINK,)), (PLAIN, EVEN, ODD), (PLAIN, EVEN, ODD + (((),) + ODD[0][1:],))]
    found[3] = (PLAIN, EVEN, (ODD[0], ((), ("a",), ("b",))))
    while len(found) < 90:
        plain = len(found) % 2 > 0
        query = near_query(SOURCE, SOURCE.randint(2, 8), AB, (0, 1, 1))
        chain = longest(query, plain)
        if chain is not None and (chain or SOURCE.random() < 0.05):
            machine = random_machine(SOURCE, SOURCE.randint(1, 3), SOURCE.choice((0, 0, 1, 2, 3)), plain, AB)
            found.append((machine, query, chain[:SOURCE.randint(max(0, len(chain) - 1), len(chain))]))
    return found


CASES = make_cases()


def plain_descent(chain, counts):
    path = ()
    for (down, word, other), count in zip(chain, counts):
        path += down + word
        for _ in range(count - 1):
            path += other
    return path


def situation_on(machine, path):
    return situation_after(machine, tuple("+" + label for label in path))


class Form(unittest.TestCase):

    def test_parameters(self):
        wanted = {
            descent_word: "(query, chain, counts, *, plain=False)", descents: "(query, chain, *, most, plain=False)",
            situations_on: "(machine, query, chain, *, most)", enough_counts: "(machine, query, chain)",
            clash_of: "(machine, query, chain, *, most)", is_clash: "(machine, query, chain, value)",
            split_documents: "(machine, query, chain, clash)", is_split: "(machine, query, value)",
        }
        for call, form in wanted.items():
            self.assertEqual((str(signature(call)), call.__module__), (form, module.__name__))
        self.assertEqual((MAX_COUNTS, MAX_DESCENT), (5000, 4900))
        self.assertEqual((module.MAX_COUNTS, module.MAX_DESCENT), (5000, 4900))

    def test_examples(self):
        self.assertEqual(descent_word(CHILD, (LINK,), (2,)), ("a",) * 5)
        self.assertEqual([counts for counts, word in descents(CHILD, (LINK,), most=3)], [(1,), (2,), (3,)])
        self.assertEqual(enough_counts(BLIND, CHILD, (LINK,)), 2)
        self.assertEqual(clash_of(BLIND, CHILD, (LINK,), most=2), ((1,), (2,)))
        self.assertIs(is_split(BLIND, CHILD, (Document.read("a(a(a) a)"), Document.read("a(a(a(a(a) a)))"))), True)

    def test_cases(self):
        self.assertGreaterEqual({len(chain) for _, _, chain in CASES}, {0, 1, 2, 3})


class Words(unittest.TestCase):
    """[11.1]"""

    def test_words(self):
        for machine, query, chain in CASES:
            plain = machine[1]
            for most in (1, 2, 3):
                wanted = [
                    (counts, plain_descent(chain, counts))
                    for counts in product(range(1, most + 1), repeat=len(chain))]
                self.assertEqual(list(descents(query, chain, most=most, plain=plain)), wanted)
                for counts, path in wanted:
                    self.assertEqual(descent_word(query, chain, counts, plain=plain), path)
                    if chain:
                        self.assertEqual(path[:len(chain[0][0])], chain[0][0])

    def test_states(self):
        """The descents of a chain of a least query lead to the s of the last link."""
        for query, chain, plain in ((BELOW, ((("b",), ("a", "b"), ("a", "b")),), False), (CHILD, (LINK,), True)):
            for counts in ((1,), (2,), (7,)):
                path = descent_word(query, chain, counts, plain=plain)
                self.assertEqual(state_after(query, path), chain_states(query, chain, plain=plain)[-1][1])

    def test_limits(self):
        chain = ((("a",), ("a",) * 100, ("a",) * 100),)
        self.assertEqual(len(descent_word(CHILD, chain, (48,))), 4801)
        check_keeps(self, TooMany, "limit", 4900, descent_word, CHILD, chain, (49,))
        check_keeps(self, TooMany, "limit", 4900, descent_word, CHILD, chain, (10 ** 59,))
        for most, right in ((48, True), (49, False), (5000, False)):
            for call in (first_of(descents), lambda *v, most: situations_on(FIRST, *v, most=most)):
                if right:
                    call(CHILD, chain, most=most)
                else:
                    check_keeps(self, TooMany, "limit", 4900, call, CHILD, chain, most=most)
        short = ((("a",), ("a", "a"), ("a", "a")),)
        self.assertEqual(len(descent_word(CHILD, short, (2449,))), 4899)
        check_keeps(self, TooMany, "limit", 4900, descent_word, CHILD, short, (2450,))
        for most in (5001, 10 ** 59):
            check_keeps(self, TooMany, "limit", 5000, first_of(descents), CHILD, chain, most=most)
            check_keeps(self, TooMany, "limit", 5000, situations_on, FIRST, CHILD, chain, most=most)
            check_keeps(self, TooMany, "limit", 5000, clash_of, FIRST, CHILD, chain, most=most)
            self.assertEqual(list(descents(CHILD, (), most=most)), [((), ())])
            self.assertEqual(situations_on(FIRST, CHILD, (), most=most), {(): (0, (None,))})
        one = (("a",), (0,), ((1,), (1,)), ("x", "y"))
        one = (("a",), (0,), ((1,), (2,), (2,)), ("x", "y", "x"))
        for length, right in ((4899, True), (4900, False)):
            link = ((("a",), ("a",) * length, ("a",) * length),)
            if right:
                self.assertEqual(len(descent_word(one, link, (1,))), 4900)
            else:
                check_keeps(self, TooMany, "limit", 4900, descent_word, one, link, (1,))
        single = ((("a",), ("a", "a"), ("a", "a")),)
        pairs = list(descents(one, single, most=2449))
        self.assertEqual((len(pairs), len(pairs[-1][1])), (2449, 4899))

    def test_many_links(self):
        for links in (2, 12, 13, 2449):
            chain = ODD + (((), ("a",), ("b",)),) * (links - 1)
            check = chain_states(EVEN, chain, plain=True)
            self.assertEqual(len(check), links)
            self.assertEqual(len(descent_word(EVEN, chain, (1,) * links, plain=True)), links + 1)
            self.assertEqual(len(list(descents(EVEN, chain, most=1, plain=True))), 1)
            if links < 13:
                self.assertEqual(len(situations_on(PLAIN, EVEN, chain, most=2)), 2 ** links)
            else:
                check_keeps(self, TooMany, "limit", 5000, situations_on, PLAIN, EVEN, chain, most=2)
                check_keeps(self, TooMany, "limit", 5000, first_of(descents), EVEN, chain, most=2, plain=True)
            self.assertEqual(enough_counts(PLAIN, EVEN, chain), 2)


class Situations(unittest.TestCase):
    """[11.2], [11.4]"""

    def test_situations(self):
        for machine, query, chain in CASES:
            for most in (1, 3):
                found = situations_on(machine, query, chain, most=most)
                self.assertIs(type(found), dict)
                self.assertEqual(list(found), sorted(found))
                for counts, path in descents(query, chain, most=most, plain=machine[1]):
                    self.assertEqual(found.pop(counts), situation_on(machine, path))
                self.assertEqual(found, {})

    def test_large(self):
        link = (("b",), ("a",), ("a",))
        for marks, plain in ((0, True), (3, False)):
            machine = random_machine(Random(4), 300, marks, plain, AB)
            found = situations_on(machine, STEPS, (link,), most=4899)
            self.assertEqual(len(found), 4899)
            for count in (1, 2, 2000, 4899):
                self.assertEqual(found[count,], situation_on(machine, ("b",) + ("a",) * count))
            found = situations_on(machine, STEPS, (link, ((), ("b",) * 30, ("b",) * 30)), most=70)
            self.assertEqual(len(found), 4900)
            self.assertEqual(found[70, 70], situation_on(machine, ("b",) + ("a",) * 70 + ("b",) * 2100))

    def test_enough(self):
        for machine, query, chain in CASES:
            found = enough_counts(machine, query, chain)
            if machine[2] >= len(chain):
                self.assertIsNone(found)
                continue
            for most in sorted({1, 2, found - 1, found, found + 1, 2 * found} - {0}):
                length = len(plain_descent(chain, (1,) * len(chain)))
                length += (most - 1) * sum(len(other) for _, _, other in chain)
                enough = most ** len(chain) > len(machine[3]) * (length + 1) ** machine[2]
                self.assertEqual(enough, most >= found, (most, found))
            if found ** len(chain) <= 5000 and length < 4000:
                self.assertIsNotNone(clash_of(machine, query, chain, most=found))

    def test_enough_great(self):
        one = ((("b",), ("a",), ("a",)),)
        for states in (1, 2, 300):
            machine = random_machine(Random(states), states, 0, False, AB)
            self.assertEqual(enough_counts(machine, STEPS, one), states + 1)
            self.assertEqual(enough_counts(machine, STEPS, ((("b",), ("a",) * 4000, ("a",) * 4000),)), states + 1)
        for length in (1, 3, 4000):
            links = ((("b",), ("a",) * length, ("a",) * length), ((), ("b",) * length, ("b",) * length))
            for states in (1, 2, 300):
                machine = random_machine(Random(states), states, 1, False, AB)
                found = enough_counts(machine, STEPS, links)
                for most, enough in ((found - 1, False), (found, True)):
                    self.assertEqual(most ** 2 > states * (1 + 2 * length * most + 1), enough)
            self.assertIsNone(enough_counts(machine, STEPS, links[:1]))
            self.assertIsNone(enough_counts(random_machine(Random(1), 9, 3, False, AB), STEPS, links))


class Clashes(unittest.TestCase):
    """[11.2] to [11.4]"""

    def test_clashes(self):
        many = split = 0
        for machine, query, chain in CASES:
            values = list(product(range(1, 4), repeat=len(chain)))[:30]
            situations = {counts: situation_on(machine, plain_descent(chain, counts)) for counts in values}
            clashes = set()
            for one, other in product(values, repeat=2):
                wanted = one < other and situations[one] == situations[other]
                self.assertIs(is_clash(machine, query, chain, (one, other)), wanted)
                if wanted and len(clashes) < 12:
                    clashes.add((one, other))
            most = 3 if len(chain) < 4 else 1
            found = clash_of(machine, query, chain, most=most)
            if found is not None:
                self.assertIs(is_clash(machine, query, chain, found), True)
                self.assertLessEqual(max(found[0] + found[1]), most)
            elif len(values) < 30:
                self.assertEqual(clashes, set())
            for clash in clashes | ({found} - {None}):
                many += 1
                split += self.check_split(machine, query, chain, clash)
        self.assertGreater(many, 150)
        self.assertEqual(many, split)

    def check_split(self, machine, query, chain, clash):
        pair = split_documents(machine, query, chain, clash)
        self.assertEqual((type(pair), len(pair)), (tuple, 2))
        told, wanted = [], []
        for document, counts in zip(pair, clash):
            path = plain_descent(chain, counts)
            self.assertEqual(document.tags[:len(path)], tuple("+" + label for label in path))
            told.append(colours_told(machine, document)[-1])
            wanted.append(colours_of(query, document)[-1])
        self.assertEqual((told[0] == told[1], wanted[0] == wanted[1]), (True, False))
        self.assertIs(is_split(machine, query, pair), True)
        return True

    def test_great_clash(self):
        counts = ((1,), (2449,))
        self.assertIs(is_clash(BLIND, CHILD, (LINK,), counts), True)
        self.assertTrue(self.check_split(BLIND, CHILD, (LINK,), counts))
        for later in (2450, 5000, 10 ** 59):
            self.assertIs(is_clash(BLIND, CHILD, (LINK,), ((1,), (later,))), False)
            check_raises(self, InvalidOperation, split_documents, BLIND, CHILD, (LINK,), ((1,), (later,)))

    def test_sizes(self):
        link = (("b",), ("a",), ("a",))
        for later, right in ((4898, True), (4899, True), (4900, False)):
            self.assertIs(is_clash(BLIND, STEPS, (link,), ((1,), (later,))), right)
        self.assertTrue(self.check_split(BLIND, STEPS, (link,), ((1,), (4899,))))

    def test_last_unlike_link(self):
        """The descents are closed up to the last link at which the counts differ."""
        links = ((("b",), ("a",) * 3, ("a",) * 3), (("a",), ("b", "b"), ("b", "b")))
        for clash in (((1, 3), (2, 3)), ((2, 1), (5, 1)), ((1, 2), (1, 4)), ((1, 5), (2, 3)), ((1, 2), (2, 4))):
            self.assertTrue(self.check_split(BLIND, STEPS, links, clash))

    def test_right_machine(self):
        chain = longest(BELOW, False)
        self.assertIsNone(enough_counts(FIRST, BELOW, chain))
        self.assertIsNone(clash_of(FIRST, BELOW, chain, most=40))

    def test_not_clashes(self):
        others = WRONG + (
            ((1,), (1,)), ((2,), (1,)), ((1,),), ((1,), (2,), (3,)), [(1,), (2,)], ([1], [2]), ((1,), [2]), (1, 2),
            ((0,), (1,)), ((-1,), (1,)), ((1,), (2, 1)), ((), (1,)), ((), ()), ((1,), (True,)), ((True,), (2,)),
            ((1,), ("2",)), ((1,), (None,)), (((1,), (2,)),), ((1,), (2,), ()))
        for value in others:
            self.assertIs(is_clash(BLIND, CHILD, (LINK,), value), False, value)
            check_raises(self, InvalidOperation, split_documents, BLIND, CHILD, (LINK,), value)
        self.assertIs(is_clash(BLIND, CHILD, (), ((), ())), False)
        self.assertIsNone(clash_of(BLIND, CHILD, (), most=3))

    def test_splits(self):
        pair = (Document.read("a(a(a) a)"), Document.read("a(a(a(a(a) a)))"))
        self.assertIs(is_split(BLIND, CHILD, pair[::-1]), True)
        self.assertIs(is_split(BLIND, CHILD, (Document.read("b(a)"), Document.read("a"))), True)
        self.assertIs(is_split(FIRST, CHILD, (Document.read("b(a)"), Document.read("a"))), True)
        self.assertIs(is_split(FIRST, BELOW, (Document.read("a(b)"), Document.read("a"))), False)
        self.assertIs(is_split(FIRST, CHILD, (Document.read("a(a)"), Document.read("a"))), False)
        self.assertIs(is_split(BLIND, CHILD, (Document.read("a"), Document.read("b"))), False)
        # The query as it is passed tells the colours; it need not be least.
        wide = (AB, (1, 1), ((2, 2), (0, 0), (2, 2)), ("yes", "no", "no"))
        self.assertIs(is_split(BLIND, wide, pair), True)
        others = WRONG + (pair[:1], pair + pair[:1], list(pair), (pair[0], None), (str(pair[0]), pair[1]), (pair, pair),
                          (Document.read("c(a)"), Document.read("a")), (Document.read("b(a)"), Document.read("c")))
        for value in others:
            self.assertIs(is_split(BLIND, CHILD, value), False, value)


class Errors(unittest.TestCase):

    def test_machines_and_queries(self):
        calls = (
            lambda machine, query: situations_on(machine, query, None, most=None),
            lambda machine, query: enough_counts(machine, query, None),
            lambda machine, query: clash_of(machine, query, None, most=None),
            lambda machine, query: is_clash(machine, query, None, None),
            lambda machine, query: split_documents(machine, query, None, None),
            lambda machine, query: is_split(machine, query, None))
        other = (("a", "c"),) + CHILD[1:]
        for call in calls:
            for machine in NOT_MACHINES[::11]:
                check_raises(self, InvalidMachine, call, machine, None)
            for query in NOT_QUERIES[::9]:
                check_raises(self, InvalidQuery, call, BLIND, query)
            check_raises(self, InvalidOperation, call, BLIND, other)
        for query in NOT_QUERIES[::9]:
            check_raises(self, InvalidQuery, descent_word, query, None, None, plain=None)
            check_raises(self, InvalidQuery, first_of(descents), query, None, most=None, plain=None)

    def test_most(self):
        for most in NOT_NUMBERS + (0,):
            check_keeps(self, InvalidNumber, "value", most, first_of(descents), CHILD, None, most=most, plain=None)
            check_keeps(self, InvalidNumber, "value", most, situations_on, BLIND, CHILD, None, most=most)
            check_keeps(self, InvalidNumber, "value", most, clash_of, BLIND, CHILD, None, most=most)
        for plain in NOT_PLAIN + OBJECTS:
            check_raises(self, InvalidOperation, first_of(descents), CHILD, None, most=6000, plain=plain)
            check_raises(self, InvalidOperation, descent_word, CHILD, None, None, plain=plain)

    def test_chains(self):
        others = WRONG + (LINK, [LINK], (LINK, LINK), ((("a",), ("a",), ("a",)),), ((("a",), ("a", "a"), ("b", "b")),))
        others = tuple(chain for chain in others if chain != ())
        for chain in others:
            for most in (1, 6000):
                check_raises(self, InvalidChain, first_of(descents), CHILD, chain, most=most)
                check_raises(self, InvalidChain, situations_on, BLIND, CHILD, chain, most=most)
                check_raises(self, InvalidChain, clash_of, BLIND, CHILD, chain, most=most)
            for value in (None, (1,), ((1,), (2,))):
                check_raises(self, InvalidChain, descent_word, CHILD, chain, value)
                check_raises(self, InvalidChain, is_clash, BLIND, CHILD, chain, value)
                check_raises(self, InvalidChain, split_documents, BLIND, CHILD, chain, value)
            check_raises(self, InvalidChain, enough_counts, BLIND, CHILD, chain)

    def test_closings(self):
        """The chain is one for the closings of the machine, or those that are told."""
        self.assertEqual(enough_counts(PLAIN, EVEN, ODD), 2)
        named = (AB, False) + PLAIN[2:4] + ((PLAIN[4][0] * 2,),)
        for call in (enough_counts, lambda *values: situations_on(*values, most=1),
                     lambda *values: is_clash(*values, ((1,), (2,)))):
            call(PLAIN, EVEN, ODD)
            check_raises(self, InvalidChain, call, named, EVEN, ODD)
        self.assertEqual(descent_word(EVEN, ODD, (2,), plain=True), ("b", "a", "b"))
        check_raises(self, InvalidChain, descent_word, EVEN, ODD, (2,))

    def test_counts(self):
        for counts in WRONG + ((), (0,), (-1,), (1, 1), (True,), [1], ("1",), ((1,),)):
            check_raises(self, InvalidOperation, descent_word, CHILD, (LINK,), counts)
        for counts in ((1,), None, [], 0):
            check_raises(self, InvalidOperation, descent_word, CHILD, (), counts)
        self.assertEqual(descent_word(CHILD, (), ()), ())

    def test_other_labels(self):
        query = (FOUR, (0,) * 4, ((1,) * 4, (1,) * 4), ("x", "y"))
        for plain in BOOLEANS:
            self.assertEqual(marks_needed(query, plain=plain), 0)
            self.assertEqual(list(descents(query, (), most=4, plain=plain)), [((), ())])
        self.assertIs(is_split(BLIND, CHILD, (TREE, TREE)), False)


if __name__ == "__main__":
    unittest.main()
