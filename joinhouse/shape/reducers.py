"""Programs that strike rows, and whether they leave just the rows that are read, in all stores."""

from joinhouse.base.questions import check_plain
from joinhouse.base.readings import rows_for
from joinhouse.base.search import each_found_part, is_found
from joinhouse.base.stores import Store, check_fit
from joinhouse.base.words import is_index, is_pair
from joinhouse.errors import InvalidNumber, InvalidProgram, TooMany
from joinhouse.shape.agreeing import agreeing_within, left_beside, values_in
from joinhouse.shape.trees import cutting

MAX_STEPS = 20
MAX_COPIES = 400


def _is_step(many, value):
    """Whether the value is a pair of indices of two different ones of so many clauses."""
    return is_pair(value) and is_index(many, value[0]) and is_index(many, value[1]) and value[0] != value[1]


def is_program(question, value):
    """Whether the value is a program for a plain question."""
    check_plain(question)
    if not isinstance(value, tuple) or len(value) > MAX_STEPS:
        return False
    return all([_is_step(len(question), step) for step in value])


def _check_program(question, program):
    """Refuses what is no plain question, and what is no program for it."""
    if not is_program(question, program):
        raise InvalidProgram("no program for the question")


def left_by(question, store, program):
    """The tuple of the tuples of the rows that a program leaves for the clauses."""
    check_plain(question)
    check_fit(question, store)
    _check_program(question, program)
    rows = agreeing_within(question, store)
    for one, other in program:
        rows[one] = left_beside(question, rows, one, other)
    return tuple([tuple(left) for left in rows])


def _rows_read_by(question, rows, columns):
    """The tuple of the rows that a clause with some columns reads in any readings in tables of rows."""
    different = [column for at, column in enumerate(columns) if column not in columns[:at]]
    places = [different.index(column) for column in columns]
    return tuple([values_in(values, places) for values in each_found_part(question, rows, different)])


def read_rows(question, store):
    """The tuple of the tuples of the rows that the clauses read in any readings."""
    check_plain(question)
    check_fit(question, store)
    rows = rows_for(question, store)
    return tuple([_rows_read_by(question, rows, columns) for _, columns in question.clauses])


def full_reducer(question):
    """Any full reducer of two steps less than twice the number of clauses, None if there is none."""
    check_plain(question)
    pairs = cutting(question)
    if pairs is None:
        return None
    # What is cut off strikes first, so that all that hangs on a clause has struck it when it strikes others.
    return (*[(other, one) for one, other in pairs], *list(reversed(pairs)))


def _number_of_copies(question, program, index):
    """The number of copies in the unfolding of a clause."""
    copies = [0] * len(question)
    copies[index] = 1
    for one, other in reversed(program):
        copies[other] = copies[other] + copies[one]
    return sum(copies)


def count_copies(question, program, index):
    """The number of copies of clauses in the unfolding of the clause with an index."""
    _check_program(question, program)
    if not is_index(len(question), index):
        raise InvalidNumber(index)
    return _number_of_copies(question, program, index)


def _joined_copy(columns, beside, fresh):
    """A dict from the columns of a new copy to numbers: those of the copy that it joins, or new ones."""
    numbers = {}
    for column in columns:
        if column in beside:
            numbers[column] = beside[column]
        elif column not in numbers:
            numbers[column] = fresh
            fresh += 1
    return numbers


def _unfolded(question, program, index):
    """The pair of a dict from tables to the clauses of an unfolding, and of the first one's dict from columns.

    Columns of the unfolding are numbers, so that its clauses are rows.
    """
    first = _joined_copy(question.clauses[index][1], {}, 0)
    copies = [(index, first)]
    fresh = len(first)
    for one, other in reversed(program):
        for at, numbers in list(copies):
            if at == one:
                joined = _joined_copy(question.clauses[other][1], numbers, fresh)
                fresh += len(joined)
                copies.append((other, joined))
    rows = {table: {} for table in question.tables}
    for at, numbers in copies:
        table, columns = question.clauses[at]
        rows[table][tuple([numbers[column] for column in columns])] = True
    return {table: tuple(sorted(rows[table])) for table in rows}, first


def missed_store(question, program):
    """Any store in which a program leaves a row that no reading reads, None if it is a full reducer."""
    _check_program(question, program)
    every = list(range(len(question)))
    if max([_number_of_copies(question, program, index) for index in every]) > MAX_COPIES:
        raise TooMany(MAX_COPIES)
    for index in every:
        rows, first = _unfolded(question, program, index)
        if not is_found(question, rows, first):
            return Store(question.tables, rows)
    return None


def is_full_reducer(question, program):
    """Whether a program leaves just the rows that are read, in all stores."""
    return missed_store(question, program) is None
