"""A desk that keeps named queries, and answers them for one document."""

from openmarks.base.checks import check_plain, is_index, is_integer
from openmarks.base.labels import check_labels, is_label
from openmarks.base.streams import Trail
from openmarks.desk.edits import copied, is_fixed, make_edit, shown, values_of
from openmarks.desk.questions import is_question, names_in, number_together
from openmarks.errors import (
    InvalidEdit, InvalidNumber, InvalidOperation, NothingToUndo, TooMany, UnknownName, Unlimited)
from openmarks.gaps.levels import marks_needed, number_paper
from openmarks.queries.budgets import MAX_BUDGET
from openmarks.queries.queries import columns_of


class Desk:
    """Named queries and formulas, edited in groups; a document that is read; and questions.

    The groups have four parts: the edits as they were passed, whether they can be shared, and
    the definitions and the values behind the group. The first many of them are in effect; those behind them can be made
    again. The numbers are those of some queries for the closings of the desk. The states
    have for a name a query and its states at the first nodes. Only the trail and the lists
    of states are ever changed; all else is replaced as a whole.
    """

    def __init__(self, labels, *, plain=False, budget=None):
        check_labels(labels)
        check_plain(plain)
        check_budget(budget)
        self._labels = labels
        self._plain = plain
        self._budget = budget
        self._groups = ()
        self._many = 0
        self._definitions = {}
        self._values = {}
        self._numbers = {}
        self._trail = Trail(labels, plain)
        self._states = {}
        self._watches = {}
        self._answers = {}
        self._news = ()

    @property
    def alphabet(self):
        """The labels."""
        return self._labels

    @property
    def is_plain(self):
        """Whether closings are plain."""
        return self._plain

    @property
    def names(self):
        """The names, ascending."""
        return tuple(sorted(self._values))

    @property
    def definitions(self):
        """A dict from the names to their definitions."""
        return {name: shown(self._definitions[name]) for name in sorted(self._definitions)}

    @property
    def answers(self):
        """A dict from the names of the watches to the answers to their questions."""
        return {name: self._answers[name] for name in sorted(self._answers)}

    @property
    def tags(self):
        """The tags that were read."""
        return tuple(self._trail.seen)

    @property
    def budget(self):
        """The greatest number that a value may have, or None."""
        return self._budget

    @budget.setter
    def budget(self, value):
        """Change the budget."""
        self.set_budget(value)

    def set_budget(self, budget):
        """Change the budget."""
        check_budget(budget)
        self._check_values(self._values, budget)
        self._budget = budget

    def __getitem__(self, name):
        if not isinstance(name, str) or name not in self._values:
            raise UnknownName(name)
        return self._values[name]

    def __iter__(self):
        raise TypeError("a desk cannot be iterated over")

    def __contains__(self, value):
        return isinstance(value, str) and value in self._values

    def __len__(self):
        return len(self._values)

    def __str__(self):
        return f"desk of {len(self._values)} queries, {self._many} groups, {len(self._trail.seen)} tags"

    def __eq__(self, value):
        if not isinstance(value, Desk):
            return False
        if self._labels != value._labels or self._plain != value._plain or self._budget != value._budget:
            return False
        return self._definitions == value._definitions and self._trail.seen == value._trail.seen

    def apply(self, *edits):
        """Make the edits as a group, all or none; return the number of groups in effect."""
        return self.apply_all(edits)

    def apply_all(self, edits):
        """Make a tuple of edits as a group, all or none; return the number of groups in effect."""
        if not isinstance(edits, tuple):
            raise InvalidEdit("not a tuple of edits")
        if not edits:
            return self._many
        definitions = {name: self._definitions[name] for name in self._definitions}
        for edit in edits:
            make_edit(definitions, self._labels, edit)
        values = values_of(definitions, self._definitions, self._values)
        self._check_values(values, self._budget)
        self._groups = self._groups[:self._many] + ((copied(edits), is_fixed(edits), definitions, values),)
        return self._move_to(self._many + 1)

    def undo(self, many=1):
        """Take the last groups back; return the number of groups in effect."""
        check_many(many, self._many)
        return self._go_to(self._many - many)

    def redo(self, many=1):
        """Make groups again that were taken back; return the number of groups in effect."""
        check_many(many, len(self._groups) - self._many)
        return self._go_to(self._many + many)

    def _go_to(self, many):
        """Let so many groups be in effect, if their values fit the budget."""
        if many == self._many:
            return many
        self._check_values(self._values_behind(many), self._budget)
        return self._move_to(many)

    def _values_behind(self, many):
        """Return the values behind so many groups."""
        return self._groups[many - 1][3] if many > 0 else {}

    def _move_to(self, many):
        """Let so many groups be in effect, and note what changes."""
        before = self._values
        self._many = many
        self._definitions = self._groups[many - 1][2] if many > 0 else {}
        self._values = self._values_behind(many)
        self._numbers = {query: self._numbers[query] for query in self._values.values() if query in self._numbers}
        self._states = {name: kept for name, kept in self._states.items() if name in self._values}
        self._answer_again(before)
        return many

    def log(self):
        """Return the groups in effect, each as the tuple of its edits."""
        groups = self._groups[:self._many]
        return tuple([edits if fixed else copied(edits) for edits, fixed, _, _ in groups])

    def _number(self, query):
        """Return the number of a query, or None."""
        if query not in self._numbers:
            self._numbers = {**self._numbers, query: marks_needed(query, plain=self._plain)}
        return self._numbers[query]

    def _check_values(self, values, budget):
        """Raise the error if a value does not fit the budget."""
        if budget is None:
            return
        names = sorted(values)
        for name in names:
            if self._number(values[name]) is None:
                raise Unlimited(number_paper(values[name], plain=self._plain))
        if any([self._number(values[name]) > budget for name in names]):
            raise TooMany(budget)

    def take(self, *tags):
        """Read the tags; return a dict from the names to the colours of the nodes that they open."""
        return self.take_all(tags)

    def take_all(self, tags):
        """Read a tuple of tags; return what take returns."""
        before = len(self._trail.opened)
        self._trail.take(tags)
        if tags:
            self._answer_again(self._values)
        return {name: self._told_from(name, before) for name in sorted(self._values)}

    def back(self, many=1):
        """Take back the last tags, and return how many are left."""
        left = self._trail.back(many)
        if many > 0:
            for _, states in self._states.values():
                del states[len(self._trail.opened):]
            self._answer_again(self._values)
        return left

    def told_of(self, name):
        """Return the colours of all nodes so far by a query."""
        if not isinstance(name, str) or name not in self._values:
            raise UnknownName(name)
        return self._told_from(name, 0)

    def _told_from(self, name, start):
        """Return the colours by a query of the nodes from a number on."""
        colours = self._values[name][3]
        return tuple([colours[state] for state in self._states_of(name)[start:]])

    def _states_of(self, name):
        """Return the list of the states of a query at all nodes."""
        query = self._values[name]
        if name not in self._states or self._states[name][0] != query:
            self._states[name] = (query, [])
        _, states = self._states[name]
        _, roots, rows, _ = query
        trail = self._trail
        columns = columns_of(trail.closings)
        for node in range(len(states), len(trail.opened)):
            parent = trail.parents[node]
            row = roots if parent is None else rows[states[parent]]
            states.append(row[columns[trail.opened[node]]])
        return states

    def during(self, call):
        """Return what the call returns for this desk, which is then as it was before."""
        labels, plain, budget = self._labels, self._plain, self._budget
        groups, many, definitions, values = self._groups, self._many, self._definitions, self._values
        numbers, watches, answers, latest = self._numbers, self._watches, self._answers, self._news
        trail = self._trail.branch()
        states = {name: (query, list(told)) for name, (query, told) in self._states.items()}
        try:
            return call(self)
        finally:
            self._labels, self._plain, self._budget = labels, plain, budget
            self._groups, self._many, self._definitions, self._values = groups, many, definitions, values
            self._numbers, self._watches, self._answers, self._news = numbers, watches, answers, latest
            self._trail, self._states = trail, states

    def watch(self, name, question):
        """Add or replace a question."""
        if not is_label(name) or not is_question(question):
            raise InvalidOperation("not a name and a question")
        for one in names_in(question):
            if one not in self._values:
                raise UnknownName(one)
        self._watches = {**self._watches, name: question}
        self._answers = {**self._answers, name: self._answer(question)}
        self._leave_out(name)

    def unwatch(self, name):
        """Remove a question."""
        if not is_label(name):
            raise InvalidOperation("not a name")
        if name not in self._watches:
            raise UnknownName(name)
        self._watches = {one: self._watches[one] for one in self._watches if one != name}
        self._answers = {one: self._answers[one] for one in self._watches}
        self._leave_out(name)

    def _leave_out(self, name):
        """Leave a watch out of the news."""
        self._news = tuple([told for told in self._news if told[0] != name])

    def news(self):
        """Yield (watch name, old answer, new answer) for the answers that were changed last."""
        yield from self._news

    def _answer_again(self, before):
        """Answer all questions, and note which answers change; the values before are passed."""
        answers = {}
        told = []
        for name in sorted(self._watches):
            question = self._watches[name]
            names = names_in(question)
            answers[name] = self._answers[name]
            # Other answers depend on nothing but the values.
            if question[0] == "colour" or any([before.get(one) != self._values.get(one) for one in names]):
                answers[name] = self._answer(question)
                if answers[name] != self._answers[name]:
                    told.append((name, self._answers[name], answers[name]))
        self._answers = answers
        self._news = tuple(told)

    def _answer(self, question):
        """Return the answer to a question."""
        names = names_in(question)
        if not all([name in self._values for name in names]):
            return "undefined"
        queries = [self._values[name] for name in names]
        if question[0] == "number":
            return self._number(queries[0])
        if question[0] == "together":
            return number_together(tuple(queries), self._plain)
        if question[0] == "equal":
            return queries[0] == queries[1]
        node = self._trail.current
        return None if node is None else queries[0][3][self._states_of(names[0])[node]]


def check_budget(budget):
    """Raise InvalidNumber if the value is no budget of a desk."""
    if budget is not None and not is_index(budget, MAX_BUDGET + 1):
        raise InvalidNumber(budget)


def check_many(many, most):
    """Raise the error if so many groups cannot be taken back or made again."""
    if not is_integer(many) or many < 0:
        raise InvalidNumber(many)
    if many > most:
        raise NothingToUndo(many)
