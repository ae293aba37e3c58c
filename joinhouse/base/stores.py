"""Stores of rows, and the stores that come from questions."""

from joinhouse.base.questions import check_questions
from joinhouse.base.words import (
    are_different,
    is_count,
    is_dict_from,
    is_figures,
    is_name,
    is_pair,
    is_row,
    is_width,
    words_of,
)
from joinhouse.errors import (
    InvalidNumber,
    InvalidOperation,
    InvalidRow,
    InvalidStore,
    InvalidTable,
    ParseError,
    TooMany,
    UnknownName,
)

MAX_TABLES = 16
MAX_ROWS = 3000


def is_entry(value):
    """Whether the value is a pair of a table's name and a row."""
    return is_pair(value) and is_name(value[0]) and is_row(value[1])


def _are_tables(value):
    """Whether the value is a dict from one to sixteen names to widths."""
    if not isinstance(value, dict) or not 1 <= len(value) <= MAX_TABLES:
        return False
    return all([is_name(table) and is_width(value[table]) for table in value])


def _are_table_rows(width, value):
    """Whether the value is a tuple of different rows of a width."""
    if not isinstance(value, tuple) or not all([is_row(row) and len(row) == width for row in value]):
        return False
    return are_different(value)


def _are_rows(tables, value):
    """Whether the value is a dict from some tables to their rows, not too many in all."""
    if not isinstance(value, dict) or not all([table in tables for table in value]):
        return False
    if not all([_are_table_rows(tables[table], value[table]) for table in value]):
        return False
    return sum([len(value[table]) for table in value]) <= MAX_ROWS


def _row_or_table(line):
    """A triple of the first word of a line, a table, and its row or width; None for a value that is no line."""
    words = words_of(line)
    if len(words) < 3 or not is_name(words[1]) or not all([is_figures(word) for word in words[2:]]):
        return None
    numbers = tuple([int(word) for word in words[2:]])
    if words[0] == "row" and is_row(numbers):
        return "row", words[1], numbers
    if words[0] == "table" and len(numbers) == 1 and is_width(numbers[0]):
        return "table", words[1], numbers[0]
    return None


def _product_row(one, other, base):
    """The row of a product that comes from two rows."""
    return tuple([x * base + y for x, y in zip(one, other)])


class Store:
    """Some tables with their rows. It never changes."""

    def __init__(self, tables, rows):
        if not _are_tables(tables) or not _are_rows(tables, rows):
            raise InvalidStore("no store has these tables and rows")
        self._tables = {table: tables[table] for table in sorted(tables)}
        self._rows = {table: tuple(sorted(rows.get(table, ()))) for table in self._tables}
        # A dict, because a pair is found in it at once; its keys are ascending.
        self._pairs = {(table, row): True for table in self._rows for row in self._rows[table]}

    @classmethod
    def from_lines(cls, *lines):
        """The store with these lines, in any order."""
        tables = {}
        seen = {}
        for at, line in enumerate(lines):
            told = _row_or_table(line)
            if told is None or told in seen:
                raise ParseError(at)
            word, table, what = told
            width = what if word == "table" else len(what)
            if tables.setdefault(table, width) != width:
                raise ParseError(at)
            seen[told] = True
        rows = {table: [] for table in tables}
        for word, table, what in seen:
            if word == "row":
                rows[table].append(what)
        return cls(tables, {table: tuple(rows[table]) for table in rows})

    @property
    def tables(self):
        """A dict from the names of the tables to their widths."""
        return dict(self._tables)

    @property
    def lines(self):
        """The tuple of the lines that tell this store."""
        empty = [f"table {table} {self._tables[table]}" for table in self._tables if not self._rows[table]]
        told = [" ".join(["row", table, *[str(number) for number in row]]) for table, row in self._pairs]
        return (*empty, *told)

    @property
    def domain(self):
        """The ascending tuple of all values in rows."""
        return tuple(sorted(set([number for _, row in self._pairs for number in row])))

    def rows(self, table):
        """The ascending tuple of the rows of a table."""
        if not is_name(table) or table not in self._tables:
            raise UnknownName(table)
        return self._rows[table]

    def _is_row_of(self, table, row):
        """Whether something is a row of the width of a table that is there."""
        return is_row(row) and len(row) == self._tables[table]

    def with_row(self, table, row):
        """This store with one row more."""
        rows = self.rows(table)
        if not self._is_row_of(table, row) or (table, row) in self._pairs:
            raise InvalidRow("no row of this table, or it is there already")
        if len(self._pairs) >= MAX_ROWS:
            raise TooMany(MAX_ROWS)
        return Store(self._tables, {**self._rows, table: (*rows, row)})

    def without_row(self, table, row):
        """This store with one row less."""
        rows = self.rows(table)
        if not self._is_row_of(table, row) or (table, row) not in self._pairs:
            raise InvalidRow("no such row is there")
        return Store(self._tables, {**self._rows, table: tuple([other for other in rows if other != row])})

    def with_table(self, table, width):
        """This store with an empty table more."""
        if not is_name(table) or table in self._tables:
            raise InvalidTable("no name, or there is such a table")
        if not is_width(width):
            raise InvalidNumber(width)
        if len(self._tables) >= MAX_TABLES:
            raise TooMany(MAX_TABLES)
        return Store({**self._tables, table: width}, self._rows)

    def without_table(self, table):
        """This store with one table less."""
        self.rows(table)
        left = [other for other in self._tables if other != table]
        return Store({name: self._tables[name] for name in left}, {name: self._rows[name] for name in left})

    def renamed(self, values):
        """This store with other values, different ones for different ones."""
        led = self.folded(values)
        if not are_different(list(values.values())):
            raise InvalidOperation("different values become one")
        return led

    def folded(self, values):
        """This store with other values, in which different ones can become one."""
        if not is_dict_from(self.domain, values) or not all([is_count(number) for number in values.values()]):
            raise InvalidOperation("no dict from just the values to values")
        rows = {}
        for table in self._rows:
            led = [tuple([values[number] for number in row]) for row in self._rows[table]]
            rows[table] = tuple(sorted(set(led)))
        return Store(self._tables, rows)

    def within(self, other):
        """Whether another store has all tables and rows of this one."""
        check_stores(other)
        if not all([other._tables.get(table, 0) == self._tables[table] for table in self._tables]):
            return False
        return all([pair in other._pairs for pair in self._pairs])

    def __add__(self, other):
        if not isinstance(other, Store):
            return NotImplemented
        tables = {**self._tables, **other._tables}
        if not all([tables[table] == self._tables[table] for table in self._tables]):
            raise InvalidStore("a table is not equally wide in both")
        rows = {
            table: tuple(sorted(set([*self._rows.get(table, ()), *other._rows.get(table, ())])))
            for table in tables
        }
        return Store(tables, rows)

    def __mul__(self, other):
        if not isinstance(other, Store):
            return NotImplemented
        tables = {table: self._tables[table] for table in self._tables if table in other._tables}
        if not all([tables[table] == other._tables[table] for table in tables]):
            raise InvalidStore("a table is not equally wide in both")
        # Looked at ahead, as the pairs of rows could be millions.
        if sum([len(self._rows[table]) * len(other._rows[table]) for table in tables]) > MAX_ROWS:
            raise InvalidStore("the product has too many rows")
        base = max(other.domain, default=0) + 1
        rows = {
            table: tuple([_product_row(x, y, base) for x in self._rows[table] for y in other._rows[table]])
            for table in tables
        }
        return Store(tables, rows)

    def __contains__(self, value):
        return is_entry(value) and value in self._pairs

    def __len__(self):
        return len(self._pairs)

    def __iter__(self):
        return iter(self._pairs)

    def __eq__(self, other):
        return isinstance(other, Store) and self._tables == other._tables and self._rows == other._rows

    def __str__(self):
        return f"store of {len(self._tables)} tables, {len(self._pairs)} rows"


def check_stores(*values):
    """Refuses each value that is no store."""
    for value in values:
        if not isinstance(value, Store):
            raise InvalidStore("no store")


def fits(store, question):
    """Whether a store has all tables of a question with their widths."""
    check_stores(store)
    check_questions(question)
    widths = store.tables
    return all([widths.get(table, 0) == width for table, width in question.tables.items()])


def check_fit(question, store):
    """Refuses what is no question, what is no store, and a store that does not fit the question."""
    check_questions(question)
    if not fits(store, question):
        raise InvalidOperation("the store does not fit the question")


def frozen(question):
    """The store whose rows are the clauses of a question, with numbers in the place of columns."""
    check_questions(question)
    rows = {table: [] for table in question.tables}
    for table, columns in question.clauses:
        rows[table].append(tuple([question.columns.index(column) for column in columns]))
    return Store(question.tables, {table: tuple(rows[table]) for table in rows})


def frozen_answer(question):
    """The numbers of the asked columns in the frozen store."""
    check_questions(question)
    return tuple([question.columns.index(column) for column in question.asked])


def spread_store(question, store):
    """The store in which the spread question has the readings of a question in a store."""
    check_fit(question, store)
    spread = question.spread
    rows = {new: store.rows(clause[0]) for new, clause in zip(spread.tables, question.clauses)}
    if sum([len(rows[table]) for table in rows]) > MAX_ROWS:
        raise TooMany(MAX_ROWS)
    return Store(spread.tables, rows)
