"""Readings of questions in stores, and the answers that they give."""

from joinhouse.base.search import each_found, found_until, is_found
from joinhouse.base.stores import check_fit
from joinhouse.base.words import is_count
from joinhouse.errors import InvalidReading, TooMany

MAX_LISTED = 20000


def rows_for(question, store):
    """A dict from the tables of a question to their rows in a store."""
    return {table: store.rows(table) for table in question.tables}


def are_values(many, value):
    """Whether something is a tuple of so many values."""
    return isinstance(value, tuple) and len(value) == many and all([is_count(number) for number in value])


def each_reading(question, store):
    """A generator of all readings, ascending."""
    check_fit(question, store)
    rows = rows_for(question, store)
    yield from each_found(question, rows, {})


def listed_readings(question, store):
    """The list of all readings, in any order, if there are not too many."""
    check_fit(question, store)
    found = found_until(question, rows_for(question, store), MAX_LISTED + 1)
    if len(found) > MAX_LISTED:
        raise TooMany(MAX_LISTED)
    return found


def _read(question, reading):
    """The pairs of a table and a row that the clauses read if the columns have some values."""
    values = dict(zip(question.columns, reading))
    return [(table, tuple([values[column] for column in columns])) for table, columns in question.clauses]


def is_reading(question, store, value):
    """Whether the value is a reading."""
    check_fit(question, store)
    if not are_values(len(question.columns), value):
        return False
    return all([pair in store for pair in _read(question, value)])


def count_readings(question, store):
    """The number of the readings, if there are not too many."""
    return len(listed_readings(question, store))


def answers(question, store):
    """The ascending tuple of the answers."""
    return tuple(counts(question, store))


def counts(question, store):
    """A dict from the answers, ascending, to their counts."""
    readings = listed_readings(question, store)
    places = [question.columns.index(column) for column in question.asked]
    found = {}
    for reading in readings:
        answer = tuple([reading[place] for place in places])
        found[answer] = found.get(answer, 0) + 1
    return {answer: found[answer] for answer in sorted(found)}


def count_of(question, store, answer):
    """The count of an answer, 0 for every value that is none."""
    found = counts(question, store)
    return found.get(answer, 0) if are_values(len(question.asked), answer) else 0


def is_answered(question, store):
    """Whether there is a reading."""
    check_fit(question, store)
    return is_found(question, rows_for(question, store), {})


def has_answer(question, store, value):
    """Whether the value is an answer of a question in a store that fits it, however many readings there are."""
    if not are_values(len(question.asked), value):
        return False
    return is_found(question, rows_for(question, store), dict(zip(question.asked, value)))


def rows_read(question, store, reading):
    """The tuple of the rows that the clauses read, in the order of the clauses."""
    if not is_reading(question, store, reading):
        raise InvalidReading("no reading of the question in the store")
    return tuple([row for _, row in _read(question, reading)])
