"""Forests of columns, and counts that are kept along them while rows change."""

from joinhouse.base.questions import check_questions
from joinhouse.base.readings import are_values
from joinhouse.base.stores import MAX_ROWS, Store, fits
from joinhouse.base.words import is_ascending, is_index, is_name, is_pair, is_row
from joinhouse.change.numbers import Numbers, foot_of, ways_of
from joinhouse.errors import InvalidForest, InvalidOperation, InvalidRow, InvalidStore, TooMany, UnknownName


def crossing_of(question):
    """Any crossing of two columns, None if there is none."""
    check_questions(question)
    having = {column: question.having(column) for column in question.columns}
    for one, other in [(one, other) for other in question.columns for one in question.columns if one < other]:
        both = [at for at in having[one] if at in having[other]]
        left = [at for at in having[one] if at not in having[other]]
        right = [at for at in having[other] if at not in having[one]]
        if both and left and right:
            return (one, other), (both[0], left[0], right[0])
    return None


def is_crossing(question, value):
    """Whether the value is a crossing of two columns."""
    check_questions(question)
    if not is_pair(value) or not is_pair(value[0]) or not all([name in question.columns for name in value[0]]):
        return False
    (one, other), places = value
    if one >= other or not isinstance(places, tuple) or len(places) != 3:
        return False
    if not all([is_index(len(question), at) for at in places]):
        return False
    having = [(at in question.having(one), at in question.having(other)) for at in places]
    return having == [(True, True), (True, False), (False, True)]


def _grown(question, first):
    """The forest of a question without a crossing; of columns in the same clauses some stand above the others."""
    order = sorted([(-len(question.having(name)), name not in first, name) for name in question.columns])
    names = [told[2] for told in order]
    aboves = {}
    for at, name in enumerate(names):
        needed = question.having(name)
        ahead = [other for other in names[:at] if all([clause in question.having(other) for clause in needed])]
        # Each of these has all clauses of those behind it.
        aboves[name] = ahead[-1] if ahead else None
    return tuple([(name, aboves[name]) for name in question.columns])


def forest_of(question):
    """Any forest of a question, None if there is none."""
    if crossing_of(question) is not None:
        return None
    return _grown(question, ())


def _come_to_none(aboves):
    """Whether one comes to None from each name by going above again and again."""
    good = {}
    for first in aboves:
        fresh = {}
        name = first
        while name is not None and name not in good:
            if name in fresh:
                return False
            fresh[name] = True
            name = aboves[name]
        good.update(fresh)
    return True


def _is_any_forest(value):
    """Whether the value is a forest of some names."""
    if not isinstance(value, tuple) or not all([is_pair(pair) and is_name(pair[0]) for pair in value]):
        return False
    if not is_ascending([name for name, _ in value]):
        return False
    aboves = dict(value)
    if not all([above is None or (is_name(above) and above in aboves) for above in aboves.values()]):
        return False
    return _come_to_none(aboves)


def is_forest(question, value):
    """Whether the value is a forest of a question."""
    check_questions(question)
    if not _is_any_forest(value) or tuple([name for name, _ in value]) != question.columns:
        return False
    ways = ways_of(value)
    return all([foot_of(ways, columns) is not None for _, columns in question.clauses])


def _check_forest(question, forest):
    """Refuses what is no question, and no forest of it."""
    if not is_forest(question, forest):
        raise InvalidForest("no forest of the question")


def open_forest(question):
    """Any forest that is open to the asked columns, None if there is none."""
    return None if bar_of(question) is not None else _grown(question, question.asked)


def is_open(question, forest):
    """Whether a forest is open to the asked columns."""
    _check_forest(question, forest)
    return all([above is None or above in question.asked for name, above in forest if name in question.asked])


def _is_above(question, one, other):
    """Whether a column that is not asked is in each clause with an asked one, and in another one, too."""
    if one in question.asked or other not in question.asked:
        return False
    more, fewer = question.having(one), question.having(other)
    return len(more) > len(fewer) and all([at in more for at in fewer])


def bar_of(question):
    """Any bar of a question, None if there is none."""
    crossing = crossing_of(question)
    if crossing is not None:
        return "cross", *crossing
    for one, other in [(one, other) for one in question.columns for other in question.columns]:
        if _is_above(question, one, other):
            return "above", one, other
    return None


def is_bar(question, value):
    """Whether the value is a bar of a question."""
    check_questions(question)
    if not isinstance(value, tuple) or len(value) != 3:
        return False
    word, one, other = value
    if word == "cross":
        return is_crossing(question, (one, other))
    if word != "above" or one not in question.columns or other not in question.columns:
        return False
    return _is_above(question, one, other)


def way_to(forest, column):
    """The way to a column, from its top on."""
    if not _is_any_forest(forest):
        raise InvalidForest("no forest")
    aboves = dict(forest)
    if not is_name(column) or column not in aboves:
        raise UnknownName(column)
    way = []
    name = column
    while name is not None:
        way.append(name)
        name = aboves[name]
    return tuple(reversed(way))


class Tally:
    """Counts of a question that are kept along a forest while the store changes."""

    def __init__(self, question, forest, store):
        _check_forest(question, forest)
        if not isinstance(store, Store) or not fits(store, question):
            raise InvalidStore("no store that fits the question")
        self._question = question
        self._forest = forest
        self._widths = store.tables
        self._rows = {table: {} for table in self._widths}
        self._numbers = Numbers(question, forest, self._rows)
        for table, row in store:
            self._numbers.put(table, row)
        self._total = self._numbers.whole()
        self._changes = []

    @property
    def question(self):
        """The question."""
        return self._question

    @property
    def forest(self):
        """The forest."""
        return self._forest

    @property
    def store(self):
        """The store as it is now."""
        return Store(self._widths, {table: tuple(rows) for table, rows in self._rows.items()})

    @property
    def total(self):
        """The number of readings."""
        return self._total

    @property
    def changes(self):
        """The tuple of the changes so far."""
        return tuple(self._changes)

    def _has(self, table, row):
        """Whether a row is in a table; refuses what is no table, and no row for it."""
        if not is_name(table) or table not in self._widths:
            raise UnknownName(table)
        if not is_row(row) or len(row) != self._widths[table]:
            raise InvalidRow("no row of this table")
        return row in self._rows[table]

    def put(self, table, row):
        """Puts a row in; the triples of a column, values, and a number that has changed."""
        if self._has(table, row):
            raise InvalidRow("the row is there already")
        if sum([len(rows) for rows in self._rows.values()]) >= MAX_ROWS:
            raise TooMany(MAX_ROWS)
        changed = self._numbers.put(table, row)
        self._total = self._numbers.whole()
        self._changes.append(("put", table, row))
        return changed

    def take(self, table, row):
        """Takes a row away; the triples of a column, values, and a number that has changed."""
        if not self._has(table, row):
            raise InvalidRow("no such row is there")
        changed = self._numbers.take(table, row)
        self._total = self._numbers.whole()
        self._changes.append(("take", table, row))
        return changed

    def _check_values(self, column, values, less):
        """Refuses what is no column, and no tuple of as many values as columns on its way, some less."""
        if column not in self._question.columns:
            raise UnknownName(column)
        if not are_values(self._numbers.length(column) - less, values):
            raise InvalidOperation("no tuple of so many values")

    def number_at(self, column, values):
        """The number of a column for the values on its way."""
        self._check_values(column, values, 0)
        return self._numbers.number_of(column, values)

    def sum_at(self, column, values):
        """The sum of a column for the values on the way above it."""
        self._check_values(column, values, 1)
        return self._numbers.sum_of(column, values)

    def counted(self, answer):
        """The count of an answer, 0 for every value that is none."""
        if not is_open(self._question, self._forest):
            raise InvalidOperation("the forest is not open to the asked columns")
        if not are_values(len(self._question.asked), answer):
            return 0
        return self._numbers.whole_with(dict(zip(self._question.asked, answer)))

    def twin(self):
        """An independent copy."""
        other = Tally(self._question, self._forest, self.store)
        other._changes = list(self._changes)
        return other

    def __call__(self, word, table, row):
        if word == "put":
            return self.put(table, row)
        if word == "take":
            return self.take(table, row)
        raise InvalidOperation("neither put nor take")

    def __contains__(self, value):
        if not is_pair(value) or not is_name(value[0]) or not is_row(value[1]):
            return False
        return value[0] in self._rows and value[1] in self._rows[value[0]]

    def __len__(self):
        return len(self._changes)

    def __eq__(self, other):
        if not isinstance(other, Tally) or self._question != other._question or self._forest != other._forest:
            return False
        return self._widths == other._widths and self._rows == other._rows and self._changes == other._changes

    def __str__(self):
        return f"tally of {len(self._question.columns)} columns, {self._total} readings"
