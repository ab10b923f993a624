"""How many bookmarks several queries need together, and which of them fit a budget."""

from openmarks.base.checks import check_index, check_plain
from openmarks.base.labels import is_label
from openmarks.errors import InvalidOperation, InvalidQuery, TooMany
from openmarks.gaps.levels import Study, are_levels_for, is_turn_of, pairs_in_chain
from openmarks.queries.combining import joint_rows
from openmarks.queries.queries import is_query, least_query

MAX_TOGETHER = 6
MAX_JOINT = 64
MAX_BUDGET = 40


def check_together(queries, least):
    """Raise the error if the value is not a tuple of so many queries or more with the same labels."""
    if not isinstance(queries, tuple) or not least <= len(queries) <= MAX_TOGETHER:
        raise InvalidQuery("not a tuple of one to six queries")
    check_all(queries)


def check_all(queries):
    """Raise the error if the values are not queries with the same labels."""
    if not all([is_query(query) for query in queries]):
        raise InvalidQuery("one of the values is not a query")
    if not all([query[0] == queries[0][0] for query in queries]):
        raise InvalidOperation("the labels of the queries differ")


class Joint:
    """The joint states of several least queries, ascending, and what is like a least query of them.

    In it, a joint state is its place among all of them. It has no colours.
    """

    def __init__(self, leasts):
        found = joint_rows([least[1] for least in leasts], [least[2] for least in leasts], MAX_JOINT)
        if found is None:
            raise TooMany(MAX_JOINT)
        begin, rows = found
        self.states = sorted(rows)
        self.numbers = {state: k for k, state in enumerate(self.states)}
        self.like_query = (
            leasts[0][0],
            tuple([self.numbers[state] for state in begin]),
            tuple([tuple([self.numbers[after] for after in rows[state]]) for state in self.states]),
            ())

    def number_of(self, value):
        """Return the place of a joint state, or None if the value is none."""
        if not isinstance(value, tuple) or not all([type(part) is int for part in value]):
            return None
        return self.numbers.get(value)


def least_queries(queries):
    """Return the least queries of queries that were checked."""
    return [least_query(query) for query in queries]


def number_of_leasts(leasts, plain):
    """Return the number of least queries together, or None."""
    study = Study(Joint(leasts).like_query, plain)
    return None if study.turn is not None else max(study.levels)


def marks_together(queries, *, plain=False):
    """Return the number of the queries together, or None."""
    check_together(queries, 1)
    check_plain(plain)
    return number_of_leasts(least_queries(queries), plain)


def together_paper(queries, *, plain=False):
    """Return a number paper of the queries together."""
    check_together(queries, 1)
    check_plain(plain)
    joint = Joint(least_queries(queries))
    form, told, proof = Study(joint.like_query, plain).proof()
    if form == "number":
        return (form, {state: told[k] for k, state in enumerate(joint.states)}, proof)
    p, word, other, s = told
    return (form, (joint.states[p], word, other, joint.states[s]), proof)


def is_together_paper(queries, value, *, plain=False):
    """Return whether the value is a number paper of the queries together."""
    check_together(queries, 1)
    check_plain(plain)
    joint = Joint(least_queries(queries))
    if not isinstance(value, tuple) or len(value) != 3:
        return False
    form, told, proof = value
    if form == "turn":
        gap = numbered_gap(joint, told)
        return gap is not None and is_turn_of(joint.like_query, (gap, proof), plain)
    if form != "number" or pairs_in_chain(joint.like_query, proof, plain) is None:
        return False
    levels = levels_in_order(joint, told)
    return levels is not None and are_levels_for(joint.like_query, levels, len(proof), plain)


def numbered_gap(joint, value):
    """Return the gap with places in place of joint states, or None if it has none."""
    if not isinstance(value, tuple) or len(value) != 4:
        return None
    p, word, other, s = value
    return (joint.number_of(p), word, other, joint.number_of(s))


def levels_in_order(joint, value):
    """Return the levels of all joint states, or None if the value is not a dict from all of them."""
    if not isinstance(value, dict) or len(value) != len(joint.states):
        return None
    if not all([joint.number_of(state) is not None for state in value]):
        return None
    return tuple([value[state] for state in joint.states])


class Budget:
    """A number of bookmarks that queries may need, for one kind of closings."""

    def __init__(self, marks, *, plain=False):
        check_index(marks, MAX_BUDGET + 1)
        check_plain(plain)
        self._marks = marks
        self._plain = plain

    @property
    def marks(self):
        """The number of bookmarks."""
        return self._marks

    @property
    def plain(self):
        """Whether closings are plain."""
        return self._plain

    def fits(self, *queries):
        """Return whether the bookmarks are enough to answer the queries together."""
        return self.fit(queries)

    def fit(self, queries):
        """Return whether the bookmarks are enough to answer a tuple of queries together."""
        check_together(queries, 0)
        return self.is_enough_for(least_queries(queries))

    def __call__(self, query):
        return self.fit((query,))

    def is_enough_for(self, leasts):
        """Return whether the bookmarks are enough for least queries together."""
        if not leasts:
            return True
        number = number_of_leasts(leasts, self._plain)
        return number is not None and number <= self._marks

    def choices(self, **queries):
        """Return the tuples of names whose queries fit, and which no further name can join."""
        return self.choices_of(queries)

    def choices_of(self, queries):
        """Return the tuples of names in a dict whose queries fit, and which no further name can join."""
        if not isinstance(queries, dict) or len(queries) > MAX_TOGETHER:
            raise InvalidOperation("not a dict with at most six keys")
        if not all([is_label(name) for name in queries]):
            raise InvalidOperation("a key is not a name")
        check_all(list(queries.values()))
        names = sorted(queries)
        leasts = {name: least_query(queries[name]) for name in names}
        if names:
            # Where all of them are not too many, no choice of them is.
            Joint(list(leasts.values()))
        fitting = self.fitting_choices(names, leasts)
        largest = [choice for choice in fitting if not can_grow(choice, names, fitting)]
        return tuple(sorted(largest))

    def fitting_choices(self, names, leasts):
        """Return a dict of all ascending tuples of names whose queries fit."""
        fitting = {(): True}
        for choice in choices_among(names):
            # Fewer queries never need more bookmarks.
            if all([choice[:k] + choice[k + 1:] in fitting for k in range(len(choice))]):
                if self.is_enough_for([leasts[name] for name in choice]):
                    fitting[choice] = True
        return fitting

    def __str__(self):
        if self._plain:
            return f"{self._marks} bookmarks, plain closings"
        return f"{self._marks} bookmarks, named closings"

    def __eq__(self, value):
        if not isinstance(value, Budget):
            return False
        return self._marks == value._marks and self._plain == value._plain


def choices_among(names):
    """Return all ascending tuples of some of the names, which are ascending, shorter ones first."""
    found = [()]
    done = 0
    while done < len(found):
        choice = found[done]
        found.extend([choice + (name,) for name in names if choice == () or name > choice[-1]])
        done += 1
    return found[1:]


def can_grow(choice, names, fitting):
    """Return whether a further name can join the choice."""
    return any([
        tuple(sorted(choice + (name,))) in fitting
        for name in names if name not in choice])
