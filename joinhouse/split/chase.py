"""Splits of a wide table into parts, and whether the joined parts are the table again."""

from joinhouse.base.questions import Question
from joinhouse.base.readings import are_values
from joinhouse.base.search import Search
from joinhouse.base.stores import MAX_ROWS, Store
from joinhouse.base.words import is_ascending, is_index, is_pair
from joinhouse.errors import InvalidRow, InvalidSplit, TooMany
from joinhouse.shape.agreeing import values_in
from joinhouse.shape.masks import within
from joinhouse.split.rules import (
    Closing,
    are_columns_of,
    are_rows_of,
    check_scheme,
    keep_all,
    mask_of_names,
    names_in,
)

MAX_PARTS = 8

_LETTERS = "abcdefgh"


def _is_part(scheme, value):
    """Whether the value is a part that a split of a scheme can have."""
    return are_columns_of(scheme.columns, value) and len(value) > 0


def _is_split(scheme, value):
    """Whether the value is a split of a scheme."""
    if not isinstance(value, tuple) or not 1 <= len(value) <= MAX_PARTS:
        return False
    if not all([_is_part(scheme, part) for part in value]) or not is_ascending(value):
        return False
    return all([any([column in part for part in value]) for column in scheme.columns])


def _check_split(scheme, split):
    """Refuses what is no scheme, and no split of it."""
    check_scheme(scheme)
    if not _is_split(scheme, split):
        raise InvalidSplit("no split of the scheme")


def _check_rows(scheme, split, rows):
    """Refuses what is no scheme, no split of it, and no ascending tuple of rows of it."""
    _check_split(scheme, split)
    if not are_rows_of(scheme, rows):
        raise InvalidRow("no ascending tuple of rows of the scheme")


def _places_of(scheme, part):
    """The list of the places of the columns of a part."""
    return [scheme.columns.index(column) for column in part]


def _rows_of_part(scheme, part, rows):
    """The dict of all tuples of values that rows have in the columns of a part."""
    places = _places_of(scheme, part)
    return {values_in(row, places): True for row in rows}


def joined_rows(scheme, split, rows):
    """The ascending tuple of all rows that agree with one of some rows in each part."""
    _check_rows(scheme, split, rows)
    clauses = [(tuple(_places_of(scheme, part)), list(_rows_of_part(scheme, part, rows))) for part in split]
    search = Search(len(scheme.columns), clauses)
    found = []
    for row in search.each_anyhow():
        if len(found) == MAX_ROWS:
            raise TooMany(MAX_ROWS)
        found.append(row)
    return tuple(sorted(found))


def _tables_of(split):
    """The list of the names of the tables of the parts."""
    return [f"p{letter}" for letter, _ in zip(_LETTERS, split)]


def split_question(scheme, split):
    """The question with one clause for each part, which asks all columns."""
    _check_split(scheme, split)
    return Question(tuple(zip(_tables_of(split), split)), scheme.columns)


def split_store(scheme, split, rows):
    """The store of the tables of the parts, with what some rows have there."""
    _check_rows(scheme, split, rows)
    tables = _tables_of(split)
    widths = {table: len(part) for table, part in zip(tables, split)}
    return Store(widths, {
        table: tuple(_rows_of_part(scheme, part, rows)) for table, part in zip(tables, split)
    })


class Chased:
    """The rows of the chase of a split, which change by steps."""

    def __init__(self, scheme, split):
        self._rows = [
            [0 if column in part else at + 1 for column in scheme.columns] for at, part in enumerate(split)
        ]
        self._rules = [[_places_of(scheme, side) for side in rule] for rule in scheme.rules]

    def is_step(self, value):
        """Whether the value is a step that can be done now."""
        if not isinstance(value, tuple) or len(value) != 3 or not is_index(len(self._rules), value[0]):
            return False
        many = len(self._rows)
        rule, one, other = value
        if not is_index(many, one) or not is_index(many, other) or one >= other:
            return False
        return self._agree(one, other, self._rules[rule][0])

    def _agree(self, one, other, places):
        """Whether two rows have equal values at some places."""
        return values_in(self._rows[one], places) == values_in(self._rows[other], places)

    def do(self, step):
        """Does a step."""
        rule, one, other = step
        for place in self._rules[rule][1]:
            values = self._rows[one][place], self._rows[other][place]
            self._rows = [
                [*row[:place], min(values), *row[place + 1:]] if row[place] in values else row for row in self._rows
            ]

    def next_step(self):
        """Any step that changes something, None if there is none."""
        every = list(range(len(self._rows)))
        for rule, (left, right) in enumerate(self._rules):
            for one, other in [(one, other) for other in every for one in every[:other]]:
                if self._agree(one, other, left) and not self._agree(one, other, right):
                    return rule, one, other
        return None

    def is_full(self):
        """Whether some row has 0 in all columns."""
        return any([not any(row) for row in self._rows])

    def told(self):
        """The tuple of the rows as they are now."""
        return tuple([tuple(row) for row in self._rows])


def _chase(scheme, split):
    """The pair of the chase of a split at its end, and of the tuple of the steps that it took."""
    chase = Chased(scheme, split)
    steps = []
    step = chase.next_step()
    while step is not None:
        chase.do(step)
        steps.append(step)
        step = chase.next_step()
    return chase, tuple(steps)


def chased(scheme, split):
    """The tuple of the rows at the end of the chase of a split."""
    _check_split(scheme, split)
    return _chase(scheme, split)[0].told()


def is_lossless(scheme, split):
    """Whether a split is without loss."""
    _check_split(scheme, split)
    return _chase(scheme, split)[0].is_full()


def chase_run(scheme, split):
    """Any tuple of steps that ends with a row that has 0 in all columns, None if there is none."""
    _check_split(scheme, split)
    chase, steps = _chase(scheme, split)
    return steps if chase.is_full() else None


def is_chase_run(scheme, split, value):
    """Whether the value is a tuple of steps that ends with a row that has 0 in all columns."""
    _check_split(scheme, split)
    if not isinstance(value, tuple):
        return False
    chase = Chased(scheme, split)
    for step in value:
        if not chase.is_step(step):
            return False
        chase.do(step)
    return chase.is_full()


def lost_row(scheme, split):
    """Any pair of rows that keep all rules and of a joined row that is none of them, None if there is no loss."""
    if is_lossless(scheme, split):
        return None
    return tuple(sorted(set(chased(scheme, split)))), tuple([0 for _ in scheme.columns])


def is_lost_row(scheme, split, value):
    """Whether the value is a pair of rows that keep all rules and of a joined row that is none of them."""
    _check_split(scheme, split)
    if not is_pair(value) or not are_rows_of(scheme, value[0]) or not are_values(len(scheme.columns), value[1]):
        return False
    rows, lost = value
    if lost in rows or not keep_all(scheme, rows):
        return False
    return all([values_in(lost, _places_of(scheme, part)) in _rows_of_part(scheme, part, rows) for part in split])


def _bent_part(closing, part):
    """What a least set decides of the columns of a part, of all sets that decide others and not all of them.

    It is a pair of this set and of all that it decides there; None if the part is normal.
    """
    found = []
    for mask in range(part + 1):
        if within(mask, part):
            decided = closing.closed(mask) & part
            if decided not in (mask, part):
                found.append((decided, mask))
    least = [pair for pair in found if not any([other != pair[0] and within(other, pair[0]) for other, _ in found])]
    return (least[0][1], least[0][0]) if least else None


def is_normal_part(scheme, part):
    """Whether no set of columns of a part decides another column of it, unless it decides all of them."""
    check_scheme(scheme)
    if not _is_part(scheme, part):
        raise InvalidSplit("no part that a split can have")
    return _bent_part(Closing(scheme), mask_of_names(scheme.columns, part)) is None


def normal_split(scheme):
    """Any split without loss all of whose parts are normal."""
    check_scheme(scheme)
    closing = Closing(scheme)
    left = (1 << len(scheme.columns)) - 1
    parts = []
    bent = _bent_part(closing, left)
    while bent is not None:
        # What is decided there is normal, as no set decides less of it; so there are no more parts than columns.
        some, decided = bent
        parts.append(decided)
        left = left & ~decided | some
        bent = _bent_part(closing, left)
    return tuple(sorted(set([names_in(scheme.columns, part) for part in [*parts, left]])))


def is_normal_split(scheme, value):
    """Whether the value is a split without loss all of whose parts are normal."""
    check_scheme(scheme)
    if not _is_split(scheme, value):
        return False
    return is_lossless(scheme, value) and all([is_normal_part(scheme, part) for part in value])


def _told_by(closing, parts, mask):
    """All columns that a set decides by rules within parts, which follow from the scheme."""
    while True:
        more = mask
        for part in parts:
            more = more | closing.closed(more & part) & part
        if more == mask:
            return mask
        mask = more


def are_told_apart(scheme, split):
    """Whether each rule of a scheme follows from rules that follow from it and lie within one part."""
    _check_split(scheme, split)
    closing = Closing(scheme)
    parts = [mask_of_names(scheme.columns, part) for part in split]
    sides = [[mask_of_names(scheme.columns, side) for side in rule] for rule in scheme.rules]
    return all([within(right, _told_by(closing, parts, left)) for left, right in sides])
