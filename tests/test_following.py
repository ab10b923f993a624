import unittest
from inspect import signature
from itertools import product
from random import Random

from openmarks.errors import (
    BadTag, InvalidNumber, InvalidOperation, InvalidQuery, NothingToUndo, TooMany, UnknownName, Unlimited)
from openmarks.gaps.levels import is_turn, levels, marks_needed
from openmarks.machines.following import (
    Follower, flat_machine, frame_before, frame_behind, frame_of_root, is_frame)
from openmarks.machines.frames import Frames, all_stacks
from openmarks.machines.machines import colours_told, is_machine
from openmarks.machines.rightness import is_right
from openmarks.queries.colouring import Reader, colours_of
from openmarks.queries.queries import least_query
from samples import (
    AB, BELOW, BOOLEANS, CHILD, EVEN, FOUR, NOT_NUMBERS, NOT_PLAIN, NOT_QUERIES, OBJECTS, SAMPLES, TREE, UNDER, WRONG,
    check_keeps, check_raises, check_same, near_query, random_query)
from test_documents import DEEP, LARGE, RANDOM_TREES, WIDE, document_of
from test_streams import trees

SOURCE = Random(90)
QUERIES = list(SAMPLES) + [near_query(SOURCE, SOURCE.randint(2, 9), AB, (0, 1, 1)) for _ in range(60)] + [
    random_query(SOURCE, 6, AB) for _ in range(40)] + [near_query(SOURCE, 6, ("a",), (0, 1)) for _ in range(6)]
ALL = [(query, plain) for query in QUERIES for plain in BOOLEANS]
WITH = [(query, plain) for query, plain in ALL if marks_needed(query, plain=plain) is not None]
WITHOUT = [(query, plain) for query, plain in ALL if marks_needed(query, plain=plain) is None]


class PlainFrames:
    """[9.1] to [9.4], followed word by word."""

    def __init__(self, query, plain):
        self.labels, self.roots, self.rows, self.colours = least_query(query)
        self.plain = plain
        self.levels = levels(query, plain=plain)
        reached = [self.behind(state) for state in range(len(self.rows))]
        self.parts = [
            frozenset({state} | {other for other in reached[state] if state in reached[other]})
            for state in range(len(self.rows))]

    def behind(self, state):
        found, new = set(), {state}
        while new:
            new = {other for one in new for other in self.rows[one]} - found
            found |= new
        return found

    def go(self, state, label):
        return self.rows[state][self.labels.index(label)]

    def same(self, one, other):
        return self.rows[one] == self.rows[other]

    def row(self, frame):
        state, exits = frame
        return [self.parts[way[0]] for way in exits] + [self.parts[state]]

    def is_frame(self, state, exits):
        row = self.row((state, exits))
        for k, (way, label) in enumerate(exits):
            if row[k + 1] != self.parts[self.go(way, label)] or row[k + 1] == row[k]:
                return False
        return len({self.levels[one] for part in row for one in part}) == 1

    def opened(self, frame, label):
        state, exits = frame
        u = self.go(state, label)
        if self.levels[u] > self.levels[state]:
            return True, (u, ())
        if u in self.parts[state]:
            return False, (u, exits)
        return False, (u, exits + ((state, label),))

    def closed(self, frame, closing):
        state, exits = frame
        row = self.row(frame)
        for k in reversed(range(len(row))):
            for q in sorted(row[k]):
                for label in self.labels if self.plain else (closing,):
                    u = self.go(q, label)
                    if u in row[k] and self.same(u, state):
                        return q, exits[:k]
            if k and (self.plain or exits[k - 1][1] == closing):
                if self.same(self.go(*exits[k - 1]), state):
                    return exits[k - 1][0], exits[:k - 1]
        return None

    def follow(self, tags):
        """Yield the stack of frames and the heights behind each number of tags, [9.5]."""
        number = max(self.levels)
        path, stack, lies = [], (), [None] * number
        for tag in tags:
            if tag[0] == "+":
                label = tag[1:]
                path.append((label, stack))
                if not stack:
                    stack = ((self.roots[self.labels.index(label)], ()),)
                else:
                    new, frame = self.opened(stack[-1], label)
                    if new:
                        lies[lies.index(None)] = len(path)
                        stack = stack + (frame,)
                    else:
                        stack = stack[:-1] + (frame,)
            else:
                label, before = path[-1]
                if len(path) == 1:
                    stack = ()
                elif len(path) in lies:
                    lies[lies.index(len(path))] = None
                    stack = before
                else:
                    stack = stack[:-1] + (self.closed(stack[-1], label),)
                path.pop()
            yield stack, tuple(None if at is None else len(path) - at for at in lies)


def frames_of(plain_one, longest=2):
    """All frames with few exits, and others."""
    many = range(len(plain_one.rows))
    ways = list(product(many, plain_one.labels))
    for exits in [e for k in range(longest + 1) for e in product(ways, repeat=k)]:
        for state in many:
            yield state, exits


class Form(unittest.TestCase):

    def test_parameters(self):
        wanted = {
            is_frame: "(query, value, *, plain=False)", frame_of_root: "(query, label, *, plain=False)",
            frame_behind: "(query, frame, label, *, plain=False)",
            frame_before: "(query, frame, label, *, plain=False)", Follower: "(query, *, plain=False)",
            flat_machine: "(query, *, plain=False)", Follower.take: "(self, *tags)",
            Follower.take_all: "(self, tags)", Follower.back: "(self, many=1)", Follower.branch: "(self)",
        }
        for call, form in wanted.items():
            self.assertEqual(str(signature(call)), form, call)
            self.assertEqual(call.__module__, "openmarks.machines.following")
        for name in ("tags", "frames", "heights"):
            self.assertIsInstance(vars(Follower)[name], property)
        for name in ("__len__", "__bool__", "__eq__", "__str__"):
            self.assertIn(name, vars(Follower))

    def test_examples(self):
        self.assertEqual(frame_behind(BELOW, (1, ()), "a"), (False, (0, ((1, "a"),))))
        self.assertEqual(frame_behind(BELOW, (0, ((1, "a"),)), "b"), (True, (2, ())))
        self.assertEqual(frame_before(BELOW, (0, ((1, "a"),)), "a"), (1, ()))
        self.assertEqual(frame_before(BELOW, (1, ()), "b"), (1, ()))
        self.assertIsNone(frame_before(BELOW, (1, ()), "a"))
        follower = Follower(BELOW)
        self.assertEqual(follower.take("+b", "+a", "+b"), ("no", "no", "yes"))
        self.assertEqual((follower.frames, follower.heights), (((0, ((1, "a"),)), (2, ())), (0,)))
        self.assertEqual((follower.take("-b", "-a", "+b"), follower.frames), (("no",), ((1, ()),)))
        self.assertEqual(str(follower), "follower with 1 frames behind 6 tags")

    def test_cases(self):
        self.assertGreater(len(WITH), 100)
        self.assertGreater(len(WITHOUT), 20)
        found = {marks_needed(query, plain=plain) for query, plain in WITH}
        self.assertGreaterEqual(found, {0, 1, 2, 3, 4})


class Frame(unittest.TestCase):
    """[9.2] to [9.4]"""

    def test_is_frame(self):
        many = 0
        for query, plain in WITH:
            plain_one = PlainFrames(query, plain)
            for frame in frames_of(plain_one, 2 if len(plain_one.rows) < 6 else 1):
                wanted = plain_one.is_frame(*frame)
                self.assertIs(is_frame(query, frame, plain=plain), wanted, (query, frame))
                many += wanted
        self.assertGreater(many, 400)

    def test_steps(self):
        for query, plain in WITH:
            plain_one = PlainFrames(query, plain)
            for frame in frames_of(plain_one, 2 if len(plain_one.rows) < 5 else 1):
                if not plain_one.is_frame(*frame):
                    continue
                for label in plain_one.labels:
                    self.assertEqual(frame_behind(query, frame, label, plain=plain), plain_one.opened(frame, label))
                    closing = None if plain else label
                    self.assertEqual(
                        frame_before(query, frame, closing, plain=plain), plain_one.closed(frame, closing),
                        (query, frame))
            for k, label in enumerate(plain_one.labels):
                self.assertEqual(frame_of_root(query, label, plain=plain), (plain_one.roots[k], ()))

    def test_not_frames(self):
        right = (0, ((1, "a"),))
        self.assertIs(is_frame(BELOW, right), True)
        others = WRONG + (
            (0, [(1, "a")]), [0, ((1, "a"),)], (0, ([1, "a"],)), (0, ((1, "a", 0),)), (0, ((1,),)), (0, (1, "a")),
            (0, ((True, "a"),)), (False, ()), (True, ()), (0, ((1, "c"),)), (0, ((1, None),)), (0, ((1, ["a"]),)),
            (0, ((1, TREE),)), (0, ((3, "a"),)), (0, ((-1, "a"),)), (0, ((10 ** 59, "a"),)), (3, ()), (-1, ()),
            (0, ()) + ((),), (0,), (0, None), (0, ((1, "a"), None)), (0, ((1, "a"), (0, "a"))), (0, ((1, "b"),)),
            (1, ((1, "a"),)), (2, ((0, "a"),)), (0, ((1, "a"),) * 2), (0, ((1, "a"),) * 5000), right + (0,))
        for value in others:
            self.assertIs(is_frame(BELOW, value), False, value)
            check_raises(self, InvalidOperation, frame_behind, BELOW, value, "c")
            check_raises(self, InvalidOperation, frame_before, BELOW, value, "c")
            check_raises(self, InvalidOperation, frame_before, BELOW, value, "a", plain=True)

    def test_labels(self):
        for label in [v for v in WRONG if v not in ("a", "b")] + ["c", "+a"]:
            check_keeps(self, UnknownName, "name", label, frame_of_root, BELOW, label)
            check_keeps(self, UnknownName, "name", label, frame_behind, BELOW, (0, ()), label)
            check_keeps(self, UnknownName, "name", label, frame_before, BELOW, (0, ()), label)
            check_keeps(self, UnknownName, "name", label, frame_behind, BELOW, (0, ()), label, plain=True)
            if label is not None:
                check_keeps(self, UnknownName, "name", label, frame_before, BELOW, (0, ()), label, plain=True)
        for label in AB:
            check_keeps(self, UnknownName, "name", label, frame_before, BELOW, (0, ()), label, plain=True)

    def test_errors(self):
        calls = (
            lambda query, plain: is_frame(query, None, plain=plain),
            lambda query, plain: frame_of_root(query, None, plain=plain),
            lambda query, plain: frame_behind(query, None, None, plain=plain),
            lambda query, plain: frame_before(query, None, 0, plain=plain),
            lambda query, plain: Follower(query, plain=plain),
            lambda query, plain: flat_machine(query, plain=plain))
        for call in calls:
            for query in NOT_QUERIES[::7]:
                check_raises(self, InvalidQuery, call, query, None)
            for plain in NOT_PLAIN + OBJECTS:
                check_raises(self, InvalidOperation, call, UNDER, plain)
            for query, plain in WITHOUT:
                error = check_raises(self, Unlimited, call, query, plain)
                self.assertEqual((type(error.paper), error.paper[0]), (tuple, "turn"))
                self.assertIs(is_turn(query, error.paper[1:], plain=plain), True)


class Followers(unittest.TestCase):
    """[9.5]"""

    def documents(self):
        found = [document_of(tree) for tree in trees(AB, 5)[::29]]
        return found + [doc for doc in map(document_of, RANDOM_TREES[::5]) if set(doc.labels) <= set(AB)]

    def test_readers(self):
        documents = self.documents()
        for query, plain in WITH:
            plain_one = PlainFrames(query, plain)
            least = least_query(query)
            for document in documents:
                if not set(document.labels) <= set(least[0]):
                    continue
                tags = document.plain_tags if plain else document.tags
                follower, reader = Follower(query, plain=plain), Reader(least, plain=plain)
                self.assertEqual((follower.frames, follower.heights), ((), (None,) * max(plain_one.levels)))
                steps = list(plain_one.follow(document.tags))
                for k, tag in enumerate(tags):
                    told = follower.take(tag)
                    self.assertEqual(told, reader.take(tag))
                    self.assertEqual((follower.frames, follower.heights), steps[k])
                    self.assertEqual((follower.tags, len(follower)), (tags[:k + 1], k + 1))
                    self.assertIs(bool(follower), k + 1 == len(tags))
                    if reader.state is not None:
                        state = follower.frames[-1][0]
                        self.assertEqual(least[2][state], least[2][reader.state])
                        self.assertTrue(tag[0] == "-" or state == reader.state)
                    for frame in follower.frames:
                        self.assertIs(is_frame(query, frame, plain=plain), True)
                    text = f"follower with {len(follower.frames)} frames behind {k + 1} tags"
                    self.assertEqual(str(follower), text)
                for left in range(len(tags) - 1, 0, -1):
                    self.assertEqual((follower.back(), follower.tags), (left, tags[:left]))
                    self.assertEqual((follower.frames, follower.heights), steps[left - 1])
                self.assertEqual((follower.back(0), follower.back(many=1), follower.frames), (1, 0, ()))
                self.assertEqual(follower.take_all(tags), colours_of(query, document))

    def test_large(self):
        for document in (DEEP, WIDE) + tuple(LARGE):
            labels = document.labels
            plain_rows = tuple((min(k + 1, 5),) * len(labels) for k in range(6))
            query = (labels, (0,) * len(labels), plain_rows, tuple("abcdef"))
            follower = Follower(query)
            check_same(self, follower.take_all(document.tags), colours_of(query, document))
            self.assertEqual((bool(follower), follower.frames), (True, ()))
            check_keeps(self, BadTag, "position", 2 * len(document), follower.take, "+" + labels[0])
            self.assertEqual(follower.back(len(document.tags)), 0)
        follower = Follower(CHILD)
        follower.take(*("+a",) * 5000)
        self.assertEqual((follower.heights, len(follower.frames)), ((4997,), 2))
        check_keeps(self, BadTag, "position", 5000, follower.take, "+a")

    def test_errors(self):
        follower = Follower(BELOW)
        follower.take("+b", "+a")
        other = follower.branch()
        for value in WRONG + ("-b", "-", "+c", "--a"):
            if value in ("+a", "+b", "-a"):
                continue
            check_keeps(self, BadTag, "position", 2, follower.take, value)
            check_keeps(self, BadTag, "position", 3, follower.take, "+a", value, "+a")
            if not isinstance(value, tuple):
                check_keeps(self, BadTag, "position", 2, follower.take_all, value)
        for many in NOT_NUMBERS:
            check_keeps(self, InvalidNumber, "value", many, follower.back, many)
        for many in (3, 10 ** 59):
            check_keeps(self, NothingToUndo, "many", many, follower.back, many)
        self.assertIs(follower == other, True)
        self.assertEqual((follower.frames, follower.take(), follower.take_all(())), (other.frames, (), ()))

    def test_branch(self):
        follower = Follower(BELOW, plain=True)
        follower.take("+b", "+a")
        other = follower.branch()
        self.assertIs(type(other), Follower)
        self.assertIs(other == follower, True)
        self.assertEqual(other.take("+a"), ("yes",))
        self.assertEqual((follower.tags, other.tags), (("+b", "+a"), ("+b", "+a", "+a")))
        self.assertEqual((follower.heights, other.heights), ((None,), (0,)))
        self.assertIs(other == follower, False)
        follower.back(2)
        self.assertEqual((len(other), len(follower), other.frames), (3, 0, ((0, ((1, "a"),)), (2, ()))))

    def test_equal(self):
        wide = (AB, (3, 1), ((2, 2), (3, 1), (2, 2), (2, 2)), ("no", "no", "yes", "no"))
        made = []
        for query, plain in ((BELOW, False), (BELOW, True), (CHILD, False), (EVEN, False)):
            for tags in ((), ("+a",), ("+b",), ("+a", "+b")):
                follower = Follower(query, plain=plain)
                follower.take_all(tags)
                made.append(follower)
        for k, one in enumerate(made):
            for j, other in enumerate(made):
                self.assertIs(one == other, k == j)
                self.assertIs(one != other, k != j)
            for value in WRONG + (Reader(BELOW), one.tags):
                self.assertIs(one == value, False)
        self.assertIs(Follower(wide) == Follower(BELOW), True)
        self.assertRaises(TypeError, iter, made[0])

    def test_equal_readers(self):
        self.assertIs(Follower(BELOW) == Reader(BELOW), False)
        self.assertIs(Reader(BELOW) == Follower(BELOW), False)


def plain_stacks(query, plain, deepest):
    """The stacks of all beginnings that are not deeper, by a search over all that is open."""
    one = PlainFrames(query, plain)
    found = {((), ())}
    new = list(found)
    while new:
        stack, path = new.pop()
        after = []
        for k, label in enumerate(one.labels if len(path) < deepest else ()):
            if not path:
                after.append((((one.roots[k], ()),), (label,)))
                continue
            begun, frame = one.opened(stack[-1], label)
            if begun:
                after.append((stack + (frame,), path + (label, stack)))
            else:
                after.append((stack[:-1] + (frame,), path + (label,)))
        if path and isinstance(path[-1], tuple):
            after.append((path[-1], path[:-2]))
        elif len(path) > 1:
            after.append((stack[:-1] + (one.closed(stack[-1], path[-1]),), path[:-1]))
        for config in after:
            if config not in found:
                found.add(config)
                new.append(config)
    return {stack for stack, path in found}


class Flat(unittest.TestCase):

    def test_right(self):
        documents = [document_of(tree) for tree in trees(AB, 4)[::5]] + [TREE]
        for query, plain in WITH:
            number = marks_needed(query, plain=plain)
            if number > 3:
                check_keeps(self, TooMany, "limit", 3, flat_machine, query, plain=plain)
                continue
            machine = flat_machine(query, plain=plain)
            self.assertIs(is_machine(machine), True)
            self.assertEqual(machine[:3], (query[0], plain, number))
            self.assertIs(is_right(machine, query), True)
            for document in documents:
                if set(document.labels) <= set(query[0]):
                    self.assertEqual(colours_told(machine, document), colours_of(query, document))

    def test_stacks(self):
        whole = 0
        for query, plain in WITH:
            if len(least_query(query)[1]) < 9 and len(query[0]) > 1:
                stacks = all_stacks(Frames(query, plain), 1000)
                self.assertEqual(stacks[0], ())
                self.assertEqual(len(stacks), len(set(stacks)))
                found = plain_stacks(query, plain, 8)
                self.assertLessEqual(found, set(stacks))
                # Where nothing is added deep down, nothing is added deeper.
                if len(found) == len(plain_stacks(query, plain, 6)):
                    self.assertEqual(found, set(stacks))
                    whole += 1
        self.assertGreater(whole, 50)

    def test_many_stacks(self):
        for states in range(3, 7):
            # A frame for each word of labels, and on each of the longest ones another frame.
            rows = tuple((min(k + 1, states - 1),) * 4 for k in range(states))
            query = (FOUR, (0,) * 4, rows, tuple("abcdefghij"[k] for k in range(states)))
            many = 1 + sum(4 ** k for k in range(states - 1)) + 4 ** (states - 2)
            self.assertEqual(len(all_stacks(Frames(query, False), 3000)), many)
            self.check_limit(query, many)

    def check_limit(self, query, many):
        self.assertIsNone(all_stacks(Frames(query, False), many - 1))
        if many <= 300:
            self.assertIs(is_right(flat_machine(query), query), True)
        else:
            check_keeps(self, TooMany, "limit", 300, flat_machine, query)

    def test_just_300(self):
        rows = ((2, 3), (4, 4), (1, 2), (5, 6), (7, 8), (9, 9), (5, 5), (3, 3), (7, 7), (10, 9), (10, 10))
        self.check_limit((AB, (0, 1), rows, tuple("yxxxxyxyxxy")), 300)
        rows = ((2, 2), (0, 0), (3, 4), (5, 5), (6, 6), (4, 4), (7, 7), (8, 7), (8, 9), (9, 9))
        self.check_limit((AB, (0, 1), rows, tuple("yyxxxyxyxy")), 299)
        self.check_limit(rings_behind(6, 4, 5), 301)
        self.check_limit(rings_behind(4, 6, 5), 297)

    def test_order(self):
        """TooMany(3) comes first."""
        rows = [(k + 1,) * 4 for k in range(6)]
        for k in range(6, 12):
            after = min(k + 1, 11)
            rows.append((after, k, k, k) if k % 2 else (k, after, k, k))
        query = (FOUR, (0,) * 4, tuple(rows), tuple("abcdefghijkl"))
        self.assertGreater(marks_needed(query), 3)
        self.assertIsNone(all_stacks(Frames(query, False), 300))
        check_keeps(self, TooMany, "limit", 3, flat_machine, query)


def rings_behind(first, second, third):
    """A ring by a, in which b leads from each state on to a ring by a, and likewise to another."""
    sizes = (first, second, third, 1)
    starts = (0, first, first + second, first + second + third)
    rows, colours = [], []
    for k, (size, start) in enumerate(zip(sizes, starts)):
        for j in range(size):
            rows.append((start + (j + 1) % size, starts[min(k + 1, 3)], starts[3]))
            colours.append("abcd"[k] + "klmnopqrs"[j])
    return (("a", "b", "c"), (0, 0, 0), tuple(rows), tuple(colours))


if __name__ == "__main__":
    unittest.main()
