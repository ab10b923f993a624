import unittest
from copy import deepcopy
from inspect import signature
from random import Random

from openmarks import errors
from openmarks.desk.desk import Desk
from openmarks.errors import (
    BadTag, InvalidEdit, InvalidLabels, InvalidNumber, InvalidOperation, InvalidQuery, InvalidWord, NothingToUndo,
    TooMany, UnknownName, Unlimited)
from openmarks.gaps.levels import is_turn, marks_needed
from openmarks.queries.budgets import marks_together
from openmarks.queries.colouring import Reader
from openmarks.queries.combining import combined, underneath
from openmarks.queries.queries import are_equal, least_query, recoloured_by
from samples import (
    AB, BELOW, BOOLEANS, CHILD, EVEN, FOUR, NOT_LABELS, NOT_NUMBERS, NOT_PLAIN, NOT_QUERIES, OBJECTS, TREE, UNDER, WRONG,
    check_keeps, check_raises, near_query, random_query)
from test_combining import cycle, every_pair
from test_documents import LARGE

OTHER = (("a", "c"),) + CHILD[1:]
WIDE = (AB, (3, 1), ((2, 2), (3, 1), (2, 2), (2, 2)), ("no", "no", "yes", "no"))
OWN = tuple(getattr(errors, name) for name in dir(errors) if name[0] in "ABCDEFGHIJKLMNOPQRSTUVWXYZ")


def is_formula(value):
    many = {"recolour": 1, "combine": 2, "underneath": 1}
    return isinstance(value, tuple) and len(value) > 0 and value[0] in tuple(many) and (
        len(value) == many[value[0]] + 2)


class PlainDesk:
    """[14.1] to [14.5], reckoned from the beginning each time."""

    def __init__(self, labels, plain, budget):
        self.labels, self.plain, self.budget = labels, plain, budget
        self.groups, self.undone, self.tags, self.watches = [], [], (), {}
        self.changed = []

    def definitions(self, groups):
        made = {}
        for group in groups:
            for edit in group:
                made = self.edited(made, edit)
        return made

    def edited(self, made, edit):
        made = dict(made)
        if edit[0] == "put":
            made[edit[1]] = least_query(edit[2])
        elif edit[0] == "define":
            made[edit[1]] = edit[2]
        elif edit[0] == "drop":
            if edit[1] not in made:
                raise UnknownName(edit[1])
            del made[edit[1]]
        else:
            if edit[2] in made:
                raise InvalidEdit("defined")
            if edit[1] not in made:
                raise UnknownName(edit[1])
            made[edit[2]] = made.pop(edit[1])
            for name, one in made.items():
                if is_formula(one):
                    names = tuple(edit[2] if part == edit[1] else part for part in one[1:-1])
                    made[name] = one[:1] + names + one[-1:]
        return made

    def values(self, made):
        needs = {name: one[1:-1] if is_formula(one) else () for name, one in made.items()}
        missing = {other for names in needs.values() for other in names} - set(made)
        if missing:
            raise UnknownName(min(missing))
        values, wrong, left = {}, {}, dict(needs)
        reach = {name: set(names) for name, names in needs.items()}
        for _ in made:
            reach = {name: set().union(names, *(reach[other] for other in names)) for name, names in reach.items()}
        if any(name in reach[name] for name in made):
            raise InvalidEdit("a cycle")
        for _ in made:
            for name in list(left):
                if all(other in values for other in needs[name]):
                    try:
                        values[name] = self.value(made[name], values)
                    except OWN as error:
                        wrong[name] = error
                    del left[name]
        if wrong:
            raise wrong[min(wrong)]
        return values

    def value(self, one, values):
        if not is_formula(one):
            return one
        if one[0] == "recolour":
            return least_query(recoloured_by(values[one[1]], one[2]))
        if one[0] == "combine":
            return combined(values[one[1]], values[one[2]], one[3])
        return underneath(values[one[1]], one[2])

    def check(self, groups, budget):
        values = self.values(self.definitions(groups))
        if budget is not None:
            numbers = [marks_needed(values[name], plain=self.plain) for name in sorted(values)]
            if None in numbers:
                raise Unlimited(None)
            if any(number > budget for number in numbers):
                raise TooMany(budget)

    def apply(self, *edits):
        if edits:
            made = self.definitions(self.groups)
            for edit in edits:
                made = self.edited(made, edit)
            self.check(self.groups + [edits], self.budget)
            self.move(self.groups + [edits], [])
        return len(self.groups)

    def move(self, groups, undone):
        before = self.answers()
        self.groups, self.undone = groups, undone
        self.note(before)

    def note(self, before):
        after = self.answers()
        self.changed = [(name, before[name], after[name]) for name in sorted(after) if before[name] != after[name]]

    def undo(self, many=1):
        if many > len(self.groups):
            raise NothingToUndo(many)
        if many:
            groups = self.groups[:-many]
            self.check(groups, self.budget)
            self.move(groups, self.groups[-many:] + self.undone)
        return len(self.groups)

    def redo(self, many=1):
        if many > len(self.undone):
            raise NothingToUndo(many)
        if many:
            groups = self.groups + self.undone[:many]
            self.check(groups, self.budget)
            self.move(groups, self.undone[many:])
        return len(self.groups)

    def set_budget(self, budget):
        self.check(self.groups, budget)
        self.budget = budget

    def now(self):
        return self.values(self.definitions(self.groups))

    def reader(self, query):
        reader = Reader(query, plain=self.plain)
        reader.take_all(self.tags)
        return reader

    def take(self, *tags):
        Reader(cycle(1, self.labels), plain=self.plain).take_all(self.tags + tags)
        before = self.answers()
        values = self.now()
        told = {name: self.reader(values[name]).take(*tags) for name in sorted(values)}
        self.tags += tags
        if tags:
            self.note(before)
        return told

    def back(self, many=1):
        if many > len(self.tags):
            raise NothingToUndo(many)
        before = self.answers()
        self.tags = self.tags[:len(self.tags) - many]
        if many:
            self.note(before)
        return len(self.tags)

    def watch(self, name, question):
        names = question[1] if question[0] == "together" else question[1:]
        for one in names:
            if one not in self.now():
                raise UnknownName(one)
        self.watches[name] = question
        self.changed = [told for told in self.changed if told[0] != name]

    def unwatch(self, name):
        if name not in self.watches:
            raise UnknownName(name)
        del self.watches[name]
        self.changed = [told for told in self.changed if told[0] != name]

    def answers(self):
        values = self.now()
        return {name: self.answer(values, self.watches[name]) for name in sorted(self.watches)}

    def answer(self, values, question):
        names = question[1] if question[0] == "together" else question[1:]
        if any(name not in values for name in names):
            return "undefined"
        queries = [values[name] for name in names]
        if question[0] == "number":
            return marks_needed(queries[0], plain=self.plain)
        if question[0] == "equal":
            return are_equal(*queries)
        if question[0] == "colour":
            reader = self.reader(queries[0])
            return None if reader.state is None else queries[0][3][reader.state]
        try:
            return marks_together(tuple(queries), plain=self.plain)
        except TooMany:
            return "large"


def shown(desk):
    """All that a desk shows."""
    return (desk.names, desk.definitions, {name: desk[name] for name in desk.names}, desk.answers, desk.tags,
            desk.budget, desk.log(), list(desk.news()), str(desk), {name: desk.told_of(name) for name in desk.names})


class Form(unittest.TestCase):

    def test_parameters(self):
        wanted = {
            Desk: "(labels, *, plain=False, budget=None)", Desk.apply: "(self, *edits)", Desk.apply_all: "(self, edits)",
            Desk.undo: "(self, many=1)", Desk.redo: "(self, many=1)", Desk.log: "(self)", Desk.take: "(self, *tags)",
            Desk.take_all: "(self, tags)", Desk.back: "(self, many=1)", Desk.told_of: "(self, name)",
            Desk.during: "(self, call)", Desk.watch: "(self, name, question)", Desk.unwatch: "(self, name)",
            Desk.news: "(self)", Desk.set_budget: "(self, budget)",
        }
        for call, form in wanted.items():
            self.assertEqual((str(signature(call)), call.__module__), (form, "openmarks.desk.desk"))
        for name in ("alphabet", "is_plain", "names", "definitions", "answers", "tags", "budget"):
            self.assertIsInstance(vars(Desk)[name], property)
        for name in ("__getitem__", "__iter__", "__contains__", "__len__", "__eq__", "__str__"):
            self.assertIn(name, vars(Desk))

    def test_examples(self):
        desk = Desk(AB)
        self.assertEqual(desk.apply(("put", "child", CHILD), ("put", "below", BELOW)), 1)
        self.assertIsNone(desk.watch("both", ("together", ("child", "below"))))
        self.assertEqual((desk.answers, desk.take("+b", "+a")), ({"both": 2}, {"below": ("no",) * 2, "child": ("no", "yes")}))
        self.assertEqual(desk.apply(("rename", "child", "kid")), 2)
        self.assertEqual(list(desk.news()), [("both", 2, "undefined")])
        self.assertEqual(desk.during(lambda one: one.take("-a", "+b")), {"below": ("no",), "kid": ("yes",)})
        self.assertEqual((desk.back(many=2), desk.undo()), (0, 1))

    def test_errors(self):
        for labels in NOT_LABELS:
            check_raises(self, InvalidLabels, Desk, labels, plain=None, budget=-1)
        for plain in NOT_PLAIN + OBJECTS:
            check_raises(self, InvalidOperation, Desk, AB, plain=plain, budget=-1)
        for budget in [v for v in WRONG if v is not None and not (type(v) is int and 0 <= v <= 40)] + [41, -1]:
            check_keeps(self, InvalidNumber, "value", budget, Desk, AB, budget=budget)
        for budget in (None, 0, 40):
            desk = Desk(FOUR, plain=True, budget=budget)
            self.assertEqual((desk.alphabet, desk.is_plain, desk.budget, len(desk)), (FOUR, True, budget, 0))
            self.assertEqual(shown(desk)[:8], ((), {}, {}, {}, (), budget, (), []))
        self.assertEqual(str(Desk(AB)), "desk of 0 queries, 0 groups, 0 tags")
        self.assertIs(Desk(AB).is_plain, False)


class RandomEdits(unittest.TestCase):

    def test_all(self):
        """All that is done to a desk is done to the plain one, and both show the same."""
        self.seen = set()
        for k in range(60):
            source = Random(140 + k)
            budget = source.choice((None, None, 1, 2, 3))
            desk, plain_one = Desk(AB, plain=k % 4 > 2, budget=budget), PlainDesk(AB, k % 4 > 2, budget)
            queries = [random_query(source, 4, AB) for _ in range(4)] + [
                near_query(source, 4, AB, (0, 1)) for _ in range(4)] + [CHILD, BELOW, EVEN, UNDER, WIDE, cycle(9), cycle(8), cycle(9)]
            for _ in range(60):
                call, values = self.step(source, queries, desk)
                self.check(desk, plain_one, call, values)
        self.assertGreaterEqual(self.seen, {
            "InvalidEdit", "UnknownName", "InvalidOperation", "InvalidWord", "NothingToUndo", "Unlimited", "TooMany",
            "BadTag", "InvalidQuery", "news", "undefined"})

    def step(self, source, queries, desk):
        name = lambda: source.choice("xyzuvw")
        kind = source.choice(("apply",) * 6 + ("undo", "redo", "take", "take", "back", "watch", "watch", "unwatch", "budget"))
        if kind == "apply":
            return "apply", tuple(self.edit(source, queries, name, desk) for _ in range(source.choice((0, 1, 1, 1, 2, 2, 3, 4))))
        if kind in ("undo", "redo", "back"):
            return kind, (source.choice((0, 1, 1, 1, 2, 3)),)
        if kind == "take":
            return kind, tuple(source.choice(("+a", "+b", "-a", "-b", "-")) for _ in range(source.randint(0, 3)))
        if kind == "watch":
            question = source.choice((("number", name()), ("equal", name(), name()), ("colour", name()), (
                "together", tuple(name() for _ in range(source.randint(1, 4))))))
            return kind, (source.choice("pqrst"), question)
        if kind == "unwatch":
            return kind, (source.choice("pqrst"),)
        return "set_budget", (source.choice((None, None, 0, 1, 2, 3, 40)),)

    def edit(self, source, queries, name, desk):
        kind = source.choice(("put", "put", "put", "define", "define", "define", "drop", "rename"))
        if kind == "put":
            return ("put", name(), source.choice(queries))
        if kind == "drop":
            return ("drop", name())
        if kind == "rename":
            return ("rename", name(), name())
        formula = source.choice(("recolour", "combine", "underneath"))
        told = sorted({colour for one in desk.names for colour in desk[one][3]}) or ["x"]
        if formula == "recolour":
            colours = {source.choice(told): source.choice(("x", "no", "A" if source.random() < 0.2 else "y"))}
            return ("define", name(), (formula, name(), colours))
        if formula == "underneath":
            return ("define", name(), (formula, name(), source.choice((("a",), (), ("b", "a"), ("b",), ("a", "c")))))
        pairs = {(x, y): source.choice((x, y, "q")) for x in told for y in told}
        if source.random() < 0.2:
            pairs.pop(source.choice(list(pairs)))
        return ("define", name(), (formula, name(), name(), pairs))

    def check(self, desk, plain_one, call, values):
        before, kept = shown(desk), deepcopy(plain_one)
        raised = told = None
        try:
            told = getattr(desk, call)(*values)
        except OWN as error:
            raised = error
        try:
            wanted = getattr(plain_one, call)(*values)
        except OWN as error:
            self.assertIs(type(raised), type(error), (call, values, raised, error))
            if isinstance(error, Unlimited):
                self.assertEqual(raised.paper[0], "turn")
            elif not isinstance(error, ValueError):
                self.assertEqual(vars(raised), vars(error), (call, values))
            self.seen.add(type(error).__name__)
            self.assertEqual(shown(desk), before)
            vars(plain_one).update(vars(kept))
            return
        self.assertIsNone(raised, (call, values, raised))
        self.assertEqual(told, wanted, (call, values))
        made = plain_one.definitions(plain_one.groups)
        self.assertEqual(desk.names, tuple(sorted(made)))
        self.assertEqual(desk.definitions, made)
        self.assertEqual(list(desk.definitions), sorted(made))
        self.assertEqual({name: desk[name] for name in made}, plain_one.now())
        self.assertEqual((desk.answers, list(desk.answers)), (plain_one.answers(), sorted(plain_one.watches)))
        self.assertEqual(list(desk.news()), plain_one.changed)
        self.assertEqual((desk.tags, desk.budget), (plain_one.tags, plain_one.budget))
        self.assertEqual(desk.log(), tuple(plain_one.groups))
        for name, query in plain_one.now().items():
            self.assertEqual(desk.told_of(name), plain_one.reader(query).told)
        text = f"desk of {len(made)} queries, {len(plain_one.groups)} groups, {len(plain_one.tags)} tags"
        self.assertEqual((str(desk), len(desk)), (text, len(made)))
        self.seen |= {"news"} if plain_one.changed else set()
        self.seen |= {answer for answer in desk.answers.values() if isinstance(answer, str)}


class Edits(unittest.TestCase):
    """[14.1], [14.2]"""

    def test_forms(self):
        desk = Desk(AB)
        desk.apply(("put", "x", CHILD))
        before = shown(desk)
        for edits in [v for v in WRONG if not isinstance(v, tuple)] + [[("drop", "x")], {}, None]:
            check_raises(self, InvalidEdit, desk.apply_all, edits)
        formulas = (None, (), [], "recolour", ("recolour",), ("recolour", "x"), ("recolour", "X", {}),
                    ("recolour", "x", {}, {}), ["recolour", "x", {}], ("combine", "x", {}), ("combine", "x", "y"),
                    ("combine", "x", None, {}), ("combine", 0, "x", {}), ("underneath", "x"), ("underneath", (), "x"),
                    ("underneath", "x", "x", ()), ("Recolour", "x", {}), (None, "x", {}), (["recolour"], "x", {}),
                    (("recolour",), "x", {}), CHILD, ("put", "x", CHILD), ("translated", "x", {}), TREE)
        others = [v for v in WRONG if v != ()] + [("define", "y", formula) for formula in formulas] + [
            ("put", "x"), ("put", "x", CHILD, 0), ("put", "X", None), ("put", None, None), ("put", ["x"], CHILD),
            ("put", "abcdefghi", CHILD), ("put", "", CHILD), ["put", "x", CHILD], ("Put", "x", CHILD), (None, "x", CHILD),
            ("drop",), ("drop", "X"), ("drop", None), ("drop", "x", "x"), ("drop", 0), ("drop", ("x",)), ["drop", "x"],
            ("rename", "x"), ("rename", "x", "Y"), ("rename", "X", "y"), ("rename", "x", None), ("rename", None, "y"),
            ("rename", "x", "y", "z"), ("rename", "x", "x"), ("rename", "q", "x"), ("define", "X", None), ("define", "x"),
            ("define", "x", ("underneath", "x", ()), 0), ("undo",), (), ((),), {"put": "x"}, (("put", "x", CHILD),)]
        for edit in others:
            check_raises(self, InvalidEdit, desk.apply, edit)
            check_raises(self, InvalidEdit, desk.apply, ("put", "q", BELOW), edit, ("drop", "nothing"))
            check_raises(self, InvalidEdit, desk.apply_all, (("put", "q", BELOW), edit))
        self.assertEqual(shown(desk), before)

    def test_queries(self):
        desk = Desk(AB)
        for query in NOT_QUERIES[::5]:
            check_raises(self, InvalidQuery, desk.apply, ("put", "x", query), ("drop", "y"))
        check_raises(self, InvalidOperation, desk.apply, ("put", "x", OTHER), ("drop", "y"))
        check_keeps(self, UnknownName, "name", "y", desk.apply, ("put", "x", CHILD), ("drop", "y"), ("put", "z", OTHER))
        desk.apply(("put", "x", WIDE))
        self.assertEqual((desk["x"], desk.definitions), (BELOW, {"x": BELOW}))
        self.assertEqual(desk.log(), ((("put", "x", WIDE),),))

    def test_order_of_errors(self):
        desk = Desk(AB)
        desk.apply(("put", "x", CHILD), ("put", "y", BELOW))
        bad = ("define", "b", ("recolour", "x", {"none": "q"}))
        worse = ("define", "a", ("underneath", "x", ("c",)))
        ring = (("define", "m", ("underneath", "n", ())), ("define", "n", ("recolour", "m", {})))
        lost = ("define", "k", ("combine", "zz", "ya", {}))
        check_keeps(self, UnknownName, "name", "q", desk.apply, bad, worse, *ring, lost, ("drop", "q"))
        check_keeps(self, UnknownName, "name", "ya", desk.apply, bad, worse, *ring, lost)
        check_raises(self, InvalidEdit, desk.apply, bad, worse, *ring)
        check_raises(self, InvalidWord, desk.apply, bad, worse)
        check_keeps(self, UnknownName, "name", "none", desk.apply, bad)
        check_keeps(self, UnknownName, "name", "none", desk.apply, ("define", "a", ("underneath", "b", ("c",))), bad)
        check_raises(self, InvalidEdit, desk.apply, ("define", "x", ("underneath", "x", ())))
        check_raises(self, InvalidEdit, desk.apply, ("define", "x", ("combine", "y", "x", None)))
        for colours, error in ((None, InvalidOperation), ({0: "x"}, InvalidOperation), ({"yes": "Y"}, InvalidQuery)):
            check_raises(self, error, desk.apply, ("define", "a", ("recolour", "x", colours)))
        for colours in (None, {}, {("yes", "no"): "x"}, {"yes": "no"}):
            check_raises(self, InvalidOperation, desk.apply, ("define", "a", ("combine", "x", "y", colours)))
        for word in (None, ["a"], ("a",) * 5001, "a", TREE):
            check_raises(self, InvalidWord, desk.apply, ("define", "a", ("underneath", "x", word)))
        desk.apply(("put", "f", cycle(7)), ("put", "g", cycle(8)))
        pairs = every_pair(cycle(7), cycle(8))
        names = {pair: "abcdefgh"[k // 8] + "abcdefgh"[k % 8] for k, pair in enumerate(pairs)}
        check_keeps(self, TooMany, "limit", 40, desk.apply, ("define", "a", ("combine", "f", "g", names)))
        self.assertEqual(len(desk.log()), 2)
        # A definition that is replaced in the same group is not worked out.
        self.assertEqual(desk.apply(bad, worse, ("put", "a", CHILD), ("drop", "b")), 3)

    def test_rename(self):
        desk = Desk(AB)
        desk.apply(("put", "x", BELOW), ("define", "y", ("combine", "x", "x", {("no", "no"): "n", ("yes", "yes"): "y"})))
        desk.watch("w", ("colour", "x"))
        desk.apply(("rename", "x", "kid"))
        self.assertEqual(desk.definitions["y"][:3], ("combine", "kid", "kid"))
        self.assertEqual((desk.names, desk.answers), (("kid", "y"), {"w": "undefined"}))
        # A name that is still to be defined can be needed, and something be renamed to it.
        desk.apply(("define", "z", ("underneath", "later", ("a",))), ("rename", "y", "later"))
        self.assertEqual((desk.names, desk["z"]), (("kid", "later", "z"), underneath(desk["later"], ("a",))))
        check_raises(self, InvalidEdit, desk.apply, ("rename", "nothing", "kid"))
        check_keeps(self, UnknownName, "name", "nothing", desk.apply, ("rename", "nothing", "new"))
        desk.apply(("rename", "kid", "swap"), ("rename", "later", "kid"), ("rename", "swap", "later"))
        self.assertEqual(desk["later"], BELOW)
        self.assertEqual(desk.definitions["kid"][1], "later")

    def test_long_formulas(self):
        desk = Desk(AB)
        names = [a + b for a in "abcdefghij" for b in "abcdefghij"]
        edits = [("define", new, ("recolour", old, {"odd": "even", "even": "odd"})) for old, new in zip(names, names[1:])]
        self.assertEqual(desk.apply(*edits[::-1], ("put", names[0], EVEN)), 1)
        self.assertEqual(desk[names[-2]], EVEN)
        self.assertEqual(desk[names[-1]][3], ("even", "odd"))
        desk.apply(("put", names[0], BELOW), *[("drop", name) for name in names[1:]])
        self.assertEqual(desk.names, (names[0],))
        word = ("a", "b") * 2500
        desk.apply(("define", "far", ("underneath", names[0], word)))
        self.assertEqual(desk["far"], underneath(BELOW, word))
        self.assertEqual(desk.definitions["far"], ("underneath", names[0], word))

    def test_groups(self):
        desk = Desk(AB)
        self.assertEqual((desk.apply(), desk.apply_all(()), desk.undo(0), desk.redo(0)), (0, 0, 0, 0))
        for k, letter in enumerate("xyz"):
            self.assertEqual(desk.apply(("put", letter, CHILD)), k + 1)
        self.assertEqual((desk.undo(), desk.undo(many=1), desk.names, desk.apply()), (2, 1, ("x",), 1))
        self.assertEqual((desk.redo(), desk.redo(many=1), desk.names), (2, 3, ("x", "y", "z")))
        check_keeps(self, NothingToUndo, "many", 1, desk.redo)
        self.assertEqual((desk.undo(3), desk.names, len(desk.log())), (0, (), 0))
        check_keeps(self, NothingToUndo, "many", 1, desk.undo)
        check_raises(self, InvalidEdit, desk.apply, None)
        self.assertEqual(desk.redo(2), 2)
        check_raises(self, InvalidEdit, desk.apply, ("put", "q", CHILD), None)
        self.assertEqual((desk.redo(), desk.undo(2)), (3, 1))
        desk.apply(("put", "q", BELOW))
        check_keeps(self, NothingToUndo, "many", 1, desk.redo)
        self.assertEqual(desk.names, ("q", "x"))
        for many in NOT_NUMBERS:
            check_keeps(self, InvalidNumber, "value", many, desk.undo, many)
            check_keeps(self, InvalidNumber, "value", many, desk.redo, many)
        for many in (3, 10 ** 59):
            check_keeps(self, NothingToUndo, "many", many, desk.undo, many)
            check_keeps(self, NothingToUndo, "many", many, desk.redo, many)


class Budgets(unittest.TestCase):
    """[14.3]"""

    def test_apply(self):
        desk = Desk(AB, budget=1)
        desk.apply(("put", "x", CHILD), ("put", "y", EVEN))
        before = shown(desk)
        both = ("define", "b", ("combine", "x", "c", every_pair(CHILD, BELOW)))
        check_keeps(self, TooMany, "limit", 1, desk.apply, ("put", "c", BELOW), both)
        error = check_raises(self, Unlimited, desk.apply, ("put", "c", BELOW), both, ("put", "z", UNDER))
        self.assertIs(is_turn(UNDER, error.paper[1:]), True)
        self.assertEqual((type(error.paper), error.paper[0], shown(desk)), (tuple, "turn", before))
        check_raises(self, InvalidEdit, desk.apply, ("put", "z", UNDER), None)
        check_keeps(self, UnknownName, "name", "q", desk.apply, ("put", "z", UNDER), ("drop", "q"))
        self.assertEqual(desk.apply(("put", "z", UNDER), ("drop", "z")), 2)

    def test_first_name(self):
        desk = Desk(AB, plain=True, budget=3)
        second = (AB, (1, 0), ((1, 0), (0, 1)), ("p", "q"))
        for names in (("x", "y"), ("y", "x")):
            error = check_raises(self, Unlimited, desk.apply, ("put", names[0], EVEN), ("put", names[1], UNDER))
            first, other = (EVEN, UNDER) if names[0] == "x" else (UNDER, EVEN)
            self.assertIs(is_turn(first, error.paper[1:], plain=True), True)
            self.assertIs(is_turn(other, error.paper[1:], plain=True), False)
        self.assertIsNone(marks_needed(second, plain=True))

    def test_assign(self):
        desk = Desk(AB)
        desk.apply(("put", "x", CHILD), ("put", "y", EVEN))
        desk.budget = 1
        self.assertEqual(desk.budget, 1)
        check_keeps(self, TooMany, "limit", 0, desk.set_budget, 0)
        check_keeps(self, TooMany, "limit", 0, setattr, desk, "budget", 0)
        for budget in [v for v in WRONG if v is not None and not (type(v) is int and 0 <= v <= 40)] + [41, -1]:
            check_keeps(self, InvalidNumber, "value", budget, desk.set_budget, budget)
            check_keeps(self, InvalidNumber, "value", budget, setattr, desk, "budget", budget)
        self.assertEqual(desk.budget, 1)
        self.assertIsNone(desk.set_budget(None))
        desk.apply(("put", "u", UNDER))
        check_raises(self, Unlimited, desk.set_budget, 40)
        self.assertIsNone(desk.budget)

    def test_undo(self):
        desk = Desk(AB)
        desk.apply(("put", "x", EVEN))
        desk.apply(("put", "x", UNDER))
        desk.apply(("put", "x", CHILD))
        desk.apply(("put", "x", EVEN))
        desk.set_budget(0)
        check_keeps(self, TooMany, "limit", 0, desk.undo)
        check_raises(self, Unlimited, desk.undo, 2)
        check_keeps(self, NothingToUndo, "many", 5, desk.undo, 5)
        self.assertEqual((desk.undo(3), desk["x"], desk.undo()), (1, EVEN, 0))
        check_raises(self, Unlimited, desk.redo, 2)
        check_keeps(self, TooMany, "limit", 0, desk.redo, 3)
        self.assertEqual((desk.names, desk.redo(4), desk["x"]), ((), 4, EVEN))
        desk.undo(3)
        desk.set_budget(1)
        self.assertEqual((desk.redo(2), desk["x"]), (3, CHILD))


class Reading(unittest.TestCase):
    """[14.4]"""

    def test_later_queries(self):
        desk = Desk(AB)
        desk.take("+b", "+a")
        desk.apply(("put", "x", BELOW))
        self.assertEqual((desk.told_of("x"), desk.take("+b")), (("no", "no"), {"x": ("yes",)}))
        desk.apply(("put", "x", CHILD), ("put", "a", EVEN))
        self.assertEqual(desk.told_of("x"), ("no", "yes", "no"))
        told = desk.take("-b", "-a", "+b")
        self.assertEqual((told, list(told)), ({"a": ("even",), "x": ("yes",)}, ["a", "x"]))
        desk.undo()
        self.assertEqual((desk.told_of("x"), desk.tags[-1]), (("no", "no", "yes", "no"), "+b"))
        self.assertEqual((desk.back(4), desk.take("+a"), desk.told_of("x")), (2, {"x": ("yes",)}, ("no", "no", "yes")))

    def test_bad_tags(self):
        for plain in BOOLEANS:
            desk = Desk(AB, plain=plain)
            desk.apply(("put", "x", CHILD))
            desk.watch("w", ("colour", "x"))
            desk.take("+b", "+b")
            before = shown(desk)
            close = "-" if plain else "-b"
            for value in WRONG + ("-a", "+c", "--"):
                if value in ("+a", "+b", close):
                    continue
                check_keeps(self, BadTag, "position", 2, desk.take, value)
                check_keeps(self, BadTag, "position", 4, desk.take, close, "+b", value, "+a")
                if not isinstance(value, tuple):
                    check_keeps(self, BadTag, "position", 2, desk.take_all, value)
            check_keeps(self, BadTag, "position", 4, desk.take, close, close, "+a")
            self.assertEqual(shown(desk), before)
            for many in NOT_NUMBERS:
                check_keeps(self, InvalidNumber, "value", many, desk.back, many)
            for many in (3, 10 ** 59):
                check_keeps(self, NothingToUndo, "many", many, desk.back, many)
            self.assertEqual((shown(desk), desk.take(), desk.back(0), desk.back()), (before, {"x": ()}, 2, 1))

    def test_large(self):
        for document in LARGE:
            desk = Desk(document.labels)
            labels = document.labels
            query = (labels, (0,) * len(labels), ((1,) * len(labels), (0,) * len(labels)), ("x", "y"))
            desk.apply(("put", "q", query))
            self.assertEqual(desk.take_all(document.tags), {"q": Reader(query).take_all(document.tags)})
            check_keeps(self, BadTag, "position", 10000, desk.take, "+" + labels[0])
            self.assertEqual((desk.back(10000), desk.told_of("q")), (0, ()))

    def test_names(self):
        desk = Desk(AB)
        desk.apply(("put", "x", CHILD))
        for name in WRONG + ("y", "X"):
            check_keeps(self, UnknownName, "name", name, desk.told_of, name)
            check_keeps(self, UnknownName, "name", name, desk.__getitem__, name)
            self.assertIs(name in desk, False)
        self.assertIs("x" in desk, True)
        self.assertRaises(TypeError, iter, desk)
        self.assertRaises(TypeError, list, desk)


class Questions(unittest.TestCase):
    """[14.5]"""

    def test_answers(self):
        desk = Desk(AB)
        desk.apply(("put", "c", CHILD), ("put", "b", BELOW), ("put", "w", WIDE), ("put", "u", UNDER), ("put", "l", cycle(40)))
        desk.apply(("put", "m", cycle(39)))
        questions = {
            "na": ("number", "c"), "nb": ("number", "u"), "ta": ("together", ("c",)), "tb": ("together", ("c", "b", "b")),
            "tc": ("together", ("c", "u")), "td": ("together", ("m", "l")), "ea": ("equal", "b", "w"),
            "eb": ("equal", "b", "c"), "ca": ("colour", "b"), "tf": ("together", ("b",) * 6)}
        for name, question in questions.items():
            self.assertIsNone(desk.watch(name, question))
        wanted = {"na": 1, "nb": None, "ta": 1, "tb": 2, "tc": None, "td": "large", "ea": True, "eb": False, "ca": None,
                  "tf": 1}
        self.assertEqual(desk.answers, wanted)
        self.assertEqual(list(desk.answers), sorted(wanted))
        self.assertEqual([type(desk.answers[name]) for name in ("na", "ea", "eb")], [int, bool, bool])
        desk.take("+a", "+b")
        self.assertEqual((desk.answers["ca"], list(desk.news())), ("yes", [("ca", None, "yes")]))
        desk.take("-b", "-a")
        self.assertEqual((desk.answers["ca"], list(desk.news())), (None, [("ca", "yes", None)]))
        desk.apply(("drop", "c"), ("drop", "w"))
        news = [("ea", True, "undefined"), ("eb", False, "undefined"), ("na", 1, "undefined"), ("ta", 1, "undefined"),
                ("tb", 2, "undefined"), ("tc", None, "undefined")]
        self.assertEqual(list(desk.news()), news)
        desk.undo()
        self.assertEqual(list(desk.news()), [(name, new, old) for name, old, new in news])
        self.assertEqual(desk.answers, wanted)

    def test_news(self):
        desk = Desk(AB)
        desk.apply(("put", "x", CHILD))
        desk.watch("p", ("number", "x"))
        desk.watch("q", ("colour", "x"))
        desk.take("+a", "+a")
        wanted = [("q", None, "yes")]
        self.assertEqual(list(desk.news()), wanted)
        # Calls without edits, groups or tags, refused calls and others leave the news.
        for call in (lambda: desk.take(), lambda: desk.apply(), lambda: desk.undo(0), lambda: desk.redo(0),
                     lambda: desk.back(0), lambda: desk.set_budget(3), lambda: desk.told_of("x"),
                     lambda: desk.watch("r", ("number", "x")), lambda: desk.unwatch("r"),
                     lambda: check_raises(self, BadTag, desk.take, "-b"), lambda: list(desk.news()),
                     lambda: check_raises(self, NothingToUndo, desk.undo, 4),
                     lambda: check_raises(self, InvalidEdit, desk.apply, None),
                     lambda: desk.during(lambda one: one.apply(("drop", "x")))):
            call()
            self.assertEqual(list(desk.news()), wanted)
        desk.watch("q", ("colour", "x"))
        self.assertEqual(list(desk.news()), [])
        desk.apply(("put", "x", EVEN))
        self.assertEqual(list(desk.news()), [("p", 1, 0), ("q", "yes", "even")])
        desk.unwatch("p")
        self.assertEqual(list(desk.news()), [("q", "yes", "even")])
        desk.watch("p", ("number", "x"))
        self.assertEqual(list(desk.news()), [("q", "yes", "even")])
        desk.apply(("put", "y", EVEN))
        self.assertEqual(list(desk.news()), [])
        self.assertEqual((desk.undo(2), list(desk.news())), (1, [("p", 0, 1), ("q", "even", "yes")]))
        self.assertEqual((desk.back(), list(desk.news())), (1, [("q", "yes", "no")]))

    def test_errors(self):
        desk = Desk(AB)
        desk.apply(("put", "x", CHILD))
        desk.watch("w", ("number", "x"))
        before = shown(desk)
        right = ("number", "x")
        for name in [v for v in WRONG if v not in ("a", "ab", "z")] + ["X", "abcdefghi", "x y"]:
            check_raises(self, InvalidOperation, desk.watch, name, right)
            check_raises(self, InvalidOperation, desk.unwatch, name)
        others = WRONG + (
            ("number",), ("number", "X"), ("number", "x", "x"), ("number", ("x",)), ("equal", "x"), ("equal", "x", "X"),
            ("equal", "x", "x", "x"), ("equal", None, "x"), ("colour",), ("colour", ""), ("colour", "x", "x"),
            ("together", "x"), ("together", ()), ("together", ("x",) * 7), ("together", ["x"]), ("together", ("X",)),
            ("together", ("x", None)), ("together", ("x",), ("x",)), ("Number", "x"), ["number", "x"], (None, "x"),
            (["number"], "x"), ("number", TREE), ("together",), ("together", ("x",), 0))
        for question in others:
            check_raises(self, InvalidOperation, desk.watch, "w", question)
        for question, name in ((("number", "q"), "q"), (("equal", "x", "q"), "q"), (("equal", "z", "q"), "z"),
                               (("together", ("x", "z", "q")), "z"), (("colour", "w"), "w")):
            check_keeps(self, UnknownName, "name", name, desk.watch, "w", question)
            check_raises(self, InvalidOperation, desk.watch, "W", question)
        for name in ("x", "q"):
            check_keeps(self, UnknownName, "name", name, desk.unwatch, name)
        self.assertEqual(shown(desk), before)


class During(unittest.TestCase):

    def test_all(self):
        desk = Desk(AB, budget=3)
        desk.apply(("put", "x", CHILD))
        desk.apply(("put", "y", BELOW))
        desk.apply(("put", "z", EVEN))
        desk.undo()
        desk.watch("w", ("colour", "x"))
        desk.watch("v", ("number", "y"))
        desk.take("+a", "+b")
        before = shown(desk)

        def inside(one):
            # Another name of the desk does the same to it.
            self.assertIs(one, desk)
            one.take("-b", "+a", "+a")
            desk.back(4)
            one.take("+b")
            desk.redo()
            desk.apply(("drop", "y"), ("put", "u", EVEN))
            one.watch("w", ("number", "u"))
            one.unwatch("v")
            desk.budget = None
            self.assertEqual(desk.during(lambda two: (two.apply(("drop", "u")), two.back(), two.names)), (5, 1, ("x", "z")))
            self.assertEqual((desk.names, desk.tags, desk.told_of("u")), (("u", "x", "z"), ("+a", "+b"), ("odd", "odd")))
            return desk.answers

        def failing(one):
            inside(one)
            raise KeyError("own")

        self.assertEqual(desk.during(inside), {"w": 0})
        self.assertEqual(shown(desk), before)
        self.assertRaises(KeyError, desk.during, failing)
        self.assertEqual(shown(desk), before)
        check_keeps(self, UnknownName, "name", "q", desk.during, lambda one: one["q"])
        self.assertEqual((shown(desk), desk.take("+a")), (before, {"x": ("no",), "y": ("yes",)}))
        self.assertEqual((desk.redo(), desk.names), (3, ("x", "y", "z")))


class Access(unittest.TestCase):
    """[0.2]"""

    def test_dicts(self):
        colours = {"yes": "no"}
        pairs = every_pair(CHILD, CHILD)
        formula = ("combine", "x", "x", pairs)
        desk = Desk(AB)
        desk.apply(("put", "x", CHILD), ("define", "y", ("recolour", "x", colours)), ("define", "z", formula))
        desk.watch("w", ("number", "x"))
        before = deepcopy(shown(desk))
        colours["no"] = "q"
        pairs.clear()
        desk.log()[0][1][2][2]["yes"] = "other"
        desk.log()[0][2][2][3].clear()
        desk.definitions["y"][2]["yes"] = "other"
        desk.definitions["z"][3].clear()
        for told in (desk.definitions, desk.answers, desk.take()):
            told.clear()
        self.assertEqual(shown(desk), before)
        self.assertEqual(list(desk.definitions["z"][3]), sorted(every_pair(CHILD, CHILD)))
        desk.apply(("put", "x", BELOW))
        self.assertEqual(desk["y"][3], ("no",))
        self.assertEqual((desk.undo(2), desk.redo(2)), (0, 2))
        self.assertEqual((desk.undo(), shown(desk)[1]), (1, before[1]))

    def test_log(self):
        """The log has the edits as they were passed, also those that were replaced in their group."""
        desk = Desk(AB)
        odd = ("define", "x", ("recolour", "q", [{"a": ["b"]}, None, (TREE, {})]))
        desk.apply(odd, ("put", "x", WIDE))
        odd[2][2][0]["a"].append("c")
        log = desk.log()
        self.assertEqual(log, ((("define", "x", ("recolour", "q", [{"a": ["b"]}, None, (TREE, {})])), ("put", "x", WIDE)),))
        log[0][0][2][2].clear()
        log[0][0][2]
        self.assertEqual(desk.log()[0][0][2][2], [{"a": ["b"]}, None, (TREE, {})])
        keys = {"yes": "no", "no": "yes"}
        desk.apply(("define", "y", ("recolour", "x", keys)))
        self.assertEqual(list(desk.definitions["y"][2]), ["no", "yes"])


class Equal(unittest.TestCase):

    def test_equal(self):
        def make(labels=AB, plain=False, budget=None, edits=(), tags=()):
            desk = Desk(labels, plain=plain, budget=budget)
            desk.apply_all(edits)
            desk.take_all(tags)
            return desk
        put = (("put", "x", BELOW),)
        made = [make(), make(labels=FOUR), make(plain=True), make(budget=3), make(edits=put), make(tags=("+a",)),
                make(edits=put, tags=("+a",)), make(edits=(("put", "y", BELOW),)), make(edits=(("put", "x", CHILD),)),
                make(edits=put + (("define", "y", ("underneath", "x", ())),)), make(edits=put + (("put", "y", BELOW),))]
        for k, one in enumerate(made):
            for j, other in enumerate(made):
                self.assertIs(one == other, k == j, (k, j))
                self.assertIs(one != other, k != j)
            for value in WRONG:
                self.assertIs(one == value, False)
        # Neither the groups, nor the watches, nor the form of a query matter.
        other = Desk(AB)
        other.apply(("put", "z", WIDE))
        other.apply(("rename", "z", "x"))
        other.watch("w", ("number", "x"))
        self.assertIs(other == made[4], True)
        one, two = [make(edits=put + (("define", "y", ("recolour", "x", colours)),)) for colours in (
            {"no": "a", "yes": "b"}, {"yes": "b", "no": "a"})]
        self.assertIs(one == two, True)


if __name__ == "__main__":
    unittest.main()
