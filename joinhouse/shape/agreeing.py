"""Which rows agree with themselves, and with rows of other clauses."""

from joinhouse.base.search import agreeing_rows


def agreeing_within(question, store):
    """The list of the rows of each clause that agree with themselves where a column stands twice, ascending."""
    return [list(agreeing_rows(columns, store.rows(table), {})) for table, columns in question.clauses]


def values_in(row, places):
    """The tuple of the values of a row at some places."""
    return tuple([row[place] for place in places])


def parts_of_rows(columns, rows, some):
    """A dict of all tuples of values that some columns of a clause have in rows."""
    places = [columns.index(column) for column in some]
    return {values_in(row, places): True for row in rows}


def left_beside(question, rows, one, other):
    """The list of the rows of one clause that agree in all common columns with some row of another clause."""
    columns = question.clauses[one][1]
    others = question.clauses[other][1]
    common = [column for column in sorted(set(columns)) if column in others]
    places = [columns.index(column) for column in common]
    beside = parts_of_rows(others, rows[other], common)
    return [row for row in rows[one] if values_in(row, places) in beside]
