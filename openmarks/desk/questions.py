"""The questions that are watched at a desk."""

from openmarks.base.labels import is_label
from openmarks.errors import TooMany
from openmarks.queries.budgets import MAX_TOGETHER, marks_together


def is_question(value):
    """Return whether the value is a question."""
    if not isinstance(value, tuple) or len(value) < 2:
        return False
    if value[0] in ("number", "colour"):
        return len(value) == 2 and is_label(value[1])
    if value[0] == "equal":
        return len(value) == 3 and is_label(value[1]) and is_label(value[2])
    if value[0] != "together" or len(value) != 2 or not isinstance(value[1], tuple):
        return False
    return 1 <= len(value[1]) <= MAX_TOGETHER and all([is_label(name) for name in value[1]])


def names_in(question):
    """Return the names in a question, in order."""
    return question[1] if question[0] == "together" else question[1:]


def number_together(queries, plain):
    """Return the answer to the question for the number of queries together."""
    try:
        return marks_together(queries, plain=plain)
    except TooMany:
        return "large"
