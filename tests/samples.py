"""Values that several tests use."""

from itertools import product

from openmarks.base.labels import make_labels
from openmarks.documents.documents import Document
from openmarks.errors import InvalidLabels, InvalidNumber
from openmarks.queries.colouring import Reader
from openmarks.queries.patterns import Path

AB = make_labels("a", "b")
FOUR = ("a", "b", "c", "d")


def nested(kind, depth=10):
    value = "a"
    for _ in range(depth):
        value = {"tuple": (value,), "list": [value], "dict": {"a": value}}[kind]
    return value


# Of every kind that the document names; none of them is labels, a word of a and b,
# a beginning, or True or False in the place of a kind of closings.
WRONG_ANYWHERE = (
    None, 0, 1, -1, 7, 10 ** 59, -(10 ** 59),
    "", "a", "ab", "+a", "-", "A b\n", "~" * 300,
    [], ["a"], ["a", "b"], ["+a"], [()], {}, {"a": "b"}, {"+a": 0}, {0: ()},
    (None,), (True,), (0,), ("",), ("A",), ("a\n",), ("a", None), ("a", ["b"]), ("a", {"b": 1}),
    ("+a", ["-a"]), ("+a", {}), ("+a", None), ("+a", ("-a",)), ("+a", 3, "-a"), (("+a",),),
    ((),), (("a",),), ("a", ("b",)), (AB, "a"), ("z", "a"), ("a" * 9,), ("", "a"),
    nested("tuple"), nested("list"), nested("dict"), (nested("list"), nested("dict")),
    InvalidLabels("an object of this package"), (InvalidNumber(3),),
)
BOOLEANS = (True, False)
NOT_LABELS = WRONG_ANYWHERE + BOOLEANS + (
    (), ("b", "a"), ("a", "a"), ("a", "b", "b"), ("a", "b", "c", "d", "e"), ("abcdefghi",),
    ("a", "B"), ("a1",), ("a b",), ("a-",), ("a", "\u00e4"), ("a" * 300,),
)
NOT_WORDS = WRONG_ANYWHERE + BOOLEANS + (
    ("c",), ("a", "b", "c"), ("ab",), ("a",) * 20 + ("x",), ("a", True), ("a", 0),
)
NOT_PLAIN = WRONG_ANYWHERE + ((), ("a",), ("+a", "-a"))


def stored(error, attribute):
    """The attribute with its class, as True and 1 are equal."""
    value = getattr(error, attribute)
    return type(value), value


def check_raises(test, wanted, call, *values, **more):
    """Check that the call raises an error of this class alone, and return the error."""
    told = (getattr(call, "__name__", "object"), values, more)
    with test.assertRaises(wanted, msg=told) as caught:
        call(*values, **more)
    test.assertIs(type(caught.exception), wanted, told)
    return caught.exception


def check_keeps(test, wanted, attribute, value, call, *values, **more):
    """Check as check_raises, and that the error keeps the value."""
    error = check_raises(test, wanted, call, *values, **more)
    test.assertEqual(stored(error, attribute), (type(value), value), (values, more))


def first_of(generator):
    """Make of a generator a function that asks for its first value."""
    def call(*values, **more):
        return next(generator(*values, **more), "nothing")
    call.__name__ = generator.__name__
    return call


def check_same(test, found, wanted):
    """Like assertEqual, for long values: unittest takes hours to show how they differ."""
    if found != wanted or type(found) is not type(wanted):
        both = zip(found, wanted)
        at = next((k for k, (x, y) in enumerate(both) if x != y), min(len(found), len(wanted)))
        test.fail(f"lengths {len(found)} and {len(wanted)}, unlike from {at} on")


CHILD = (AB, (0, 0), ((1, 1), (2, 2), (2, 2)), ("no", "yes", "no"))
BELOW = (AB, (0, 1), ((2, 2), (0, 1), (2, 2)), ("no", "no", "yes"))
EVEN = (AB, (0, 1), ((1, 0), (0, 1)), ("odd", "even"))
UNDER = (AB, (0, 1), ((2, 3), (0, 1), (2, 3), (0, 1)), ("no", "no", "yes", "yes"))
SAMPLES = (CHILD, BELOW, EVEN, UNDER)
STAY = ((0, 0), (0, 0))
LEAVE = ((0, 1), (0, 0))
FIRST = (AB, False, 1, ((("no", 1, 1), ("no", 0, 0)), (("yes", 0, 1), ("yes", 0, 1))), ((STAY, STAY), (LEAVE, LEAVE)))
TREE = Document.read("b(a(b b) b)")
# Values with objects of the package that have no place in a dict.
OBJECTS = (TREE, Path("/a"), ~Path("//a"), Reader(CHILD), (TREE,), [Path("//b")], {"a": TREE}, ("a", TREE))
WRONG = WRONG_ANYWHERE + BOOLEANS + OBJECTS
# None of them is an integer from 0 on.
NOT_NUMBERS = tuple(v for v in WRONG if isinstance(v, bool) or not isinstance(v, int) or v < 0)


def with_part(value, part, k):
    """The tuple with another part at one place."""
    return value[:k] + (part,) + value[k + 1:]


def broken(value, parts, depth=3):
    """The tuple with each part at each depth replaced by each of the other values."""
    for k in range(len(value)):
        for part in parts:
            if part != value[k] or type(part) is not type(value[k]):
                yield with_part(value, part, k)
        yield value[:k] + value[k + 1:]
        yield with_part(value, [value[k]], k)
        if depth and isinstance(value[k], tuple):
            for inner in broken(value[k], parts, depth - 1):
                yield with_part(value, inner, k)


def as_lists(value):
    return [as_lists(part) for part in value] if isinstance(value, tuple) else value


def make_not_queries():
    found = [v for v in WRONG if v != BELOW] + [as_lists(BELOW), BELOW[:3], BELOW + ((),)]
    for value in broken(BELOW, (None, True, -1, 3, 10 ** 59, "", "A", "a" * 9, (), [], {}, TREE)):
        found.append(value)
    # A colour may be replaced by each label, a state by each smaller one.
    many = tuple(("a", "b") for _ in range(41))
    found.append((AB, (0, 0), ((0, 0),) * 41, ("no",) * 41))
    found.append((AB, (0, 0), (), ()))
    found.append((("b", "a"),) + BELOW[1:])
    found.append((("a", "b", "c"),) + BELOW[1:])
    found.append((AB, (0, True), ((0, 0), (0, 0)), ("x", "y")))
    found.append((AB, (0, 0), ((0, False), (0, 0)), ("x", "y")))
    found.append((AB, many, ((0, 0),), ("x",)))
    return tuple(found)


NOT_QUERIES = make_not_queries()
NOT_DOCUMENTS = tuple(v for v in WRONG if not isinstance(v, Document)) + (str(TREE), TREE.tags)


def all_paths(labels, longest):
    """All paths of at most so many labels, by length, then ascending."""
    return [word for many in range(1, longest + 1) for word in product(labels, repeat=many)]


def plain_state(query, word, start=None):
    """The state behind a word, by the definition."""
    labels, roots, rows, _ = query
    for label in word:
        start = (roots if start is None else rows[start])[labels.index(label)]
    return start


def plain_colour(query, word):
    return query[3][plain_state(query, word)]


def random_query(source, states, labels, colours="xyz"):
    """A query with at most so many states, many of them not reached or equal."""
    many = source.randint(1, states)
    used = source.randint(1, many)
    row = lambda: tuple(source.randrange(used if source.random() < 0.8 else many) for _ in labels)
    told = source.choice((colours[:1], colours[:2], colours))
    return (labels, row(), tuple(row() for _ in range(many)), tuple(source.choice(told) for _ in range(many)))


def near_query(source, states, labels, steps):
    """A query most of whose states lead to states near them, with many rings and gaps."""
    def after(state):
        if source.random() < 0.2:
            return source.randrange(states)
        return min(states - 1, max(0, state + source.choice(steps)))
    rows = tuple(tuple(after(state) for _ in labels) for state in range(states))
    return (labels, tuple(after(0) for _ in labels), rows, tuple(source.choice("xy") for _ in range(states)))


def random_machine(source, states, marks, plain, labels):
    sets = range(1 << marks)
    def pair():
        return source.choice(sets) if source.random() < 0.7 else 0, source.randrange(states)
    opens = tuple(tuple((source.choice("xy"),) + pair() for _ in labels) for _ in range(states))
    closes = tuple(
        tuple(tuple(pair() for _ in sets) for _ in (labels[:1] if plain else labels)) for _ in range(states))
    return (labels, plain, marks, opens, closes)


def make_not_machines():
    found = [v for v in WRONG if v != FIRST] + [as_lists(FIRST), FIRST[:4], FIRST + ((),), BELOW]
    for value in broken(FIRST, (None, 5, -1, 10 ** 59, "", "A", (), [], {}, TREE, True), 4):
        # Closings, labels and numbers can be exchanged for right ones of another kind.
        if value[1:2] != (True,) or value[2] != 1:
            found.append(value)
    found.append((AB, True) + FIRST[2:])
    found.append((AB, False, True) + FIRST[3:])
    found.append((AB, False, 4, FIRST[3], ((((0, 0),) * 16,) * 2,) * 2))
    found.append((AB, False, 2) + FIRST[3:])
    found.append((AB, False, 0) + FIRST[3:])
    found.append((AB, 0) + FIRST[2:])
    found.append((AB, False, 0, (), ()))
    found.append((("a",), True, 0, ((("x", 0, 0),),) * 301, ((((0, 0),),),) * 301))
    found.append(FIRST[:3] + (FIRST[3], FIRST[4][:1]))
    return tuple(found)


NOT_MACHINES = make_not_machines()
