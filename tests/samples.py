"""Values that several tests use."""

from openmarks.base.labels import make_labels
from openmarks.errors import InvalidLabels, InvalidNumber

AB = make_labels("a", "b")
FOUR = ("a", "b", "c", "d")


def nested(kind, depth=10):
    value = "a"
    for _ in range(depth):
        value = {"tuple": (value,), "list": [value], "dict": {"a": value}}[kind]
    return value


# Of every kind that the document names; none of them is labels, a word of a and b,
# a beginning, or True or False in the place of a kind of closings.
WRONG_ANYWHERE = (
    None, 0, 1, -1, 7, 10 ** 59, -(10 ** 59),
    "", "a", "ab", "+a", "-", "A b\n", "~" * 300,
    [], ["a"], ["a", "b"], ["+a"], [()], {}, {"a": "b"}, {"+a": 0}, {0: ()},
    (None,), (True,), (0,), ("",), ("A",), ("a\n",), ("a", None), ("a", ["b"]), ("a", {"b": 1}),
    ("+a", ["-a"]), ("+a", {}), ("+a", None), ("+a", ("-a",)), ("+a", 3, "-a"), (("+a",),),
    ((),), (("a",),), ("a", ("b",)), (AB, "a"), ("z", "a"), ("a" * 9,), ("", "a"),
    nested("tuple"), nested("list"), nested("dict"), (nested("list"), nested("dict")),
    InvalidLabels("an object of this package"), (InvalidNumber(3),),
)
BOOLEANS = (True, False)
NOT_LABELS = WRONG_ANYWHERE + BOOLEANS + (
    (), ("b", "a"), ("a", "a"), ("a", "b", "b"), ("a", "b", "c", "d", "e"), ("abcdefghi",),
    ("a", "B"), ("a1",), ("a b",), ("a-",), ("a", "\u00e4"), ("a" * 300,),
)
NOT_WORDS = WRONG_ANYWHERE + BOOLEANS + (
    ("c",), ("a", "b", "c"), ("ab",), ("a",) * 20 + ("x",), ("a", True), ("a", 0),
)
NOT_PLAIN = WRONG_ANYWHERE + ((), ("a",), ("+a", "-a"))


def stored(error, attribute):
    """The attribute with its class, as True and 1 are equal."""
    value = getattr(error, attribute)
    return type(value), value


def check_raises(test, wanted, call, *values, **more):
    """Check that the call raises an error of this class alone, and return the error."""
    with test.assertRaises(wanted, msg=(call.__name__, values, more)) as caught:
        call(*values, **more)
    test.assertIs(type(caught.exception), wanted, (call.__name__, values, more))
    return caught.exception


def check_keeps(test, wanted, attribute, value, call, *values, **more):
    """Check as check_raises, and that the error keeps the value."""
    error = check_raises(test, wanted, call, *values, **more)
    test.assertEqual(stored(error, attribute), (type(value), value), (call.__name__, values, more))


def first_of(generator):
    """Make of a generator a function that asks for its first value."""
    def call(*values, **more):
        return next(generator(*values, **more), "nothing")
    call.__name__ = generator.__name__
    return call


def check_same(test, found, wanted):
    """Like assertEqual, for long values: unittest takes hours to show how they differ."""
    if found != wanted or type(found) is not type(wanted):
        both = zip(found, wanted)
        at = next((k for k, (x, y) in enumerate(both) if x != y), min(len(found), len(wanted)))
        test.fail(f"lengths {len(found)} and {len(wanted)}, unlike from {at} on")
