"""The numbers of the columns of a forest, which are kept while rows come and go."""

from joinhouse.shape.agreeing import values_in


def ways_of(forest):
    """A dict from the columns of a forest to their ways, each from its top on."""
    aboves = dict(forest)
    ways = {}
    for column in aboves:
        fresh = []
        name = column
        while name is not None and name not in ways:
            fresh.append(name)
            name = aboves[name]
        way = () if name is None else ways[name]
        for other in reversed(fresh):
            way = (*way, other)
            ways[other] = way
    return ways


def foot_of(ways, columns):
    """The column whose way has just some columns, None if there is none."""
    many = len(set(columns))
    for name in columns:
        if len(ways[name]) == many and all([other in columns for other in ways[name]]):
            return name
    return None


class Foot:
    """A clause and the way to its foot: the places of the columns of the clause on the way, and the other way round."""

    def __init__(self, ways, columns):
        self.column = foot_of(ways, columns)
        way = ways[self.column]
        self.places = [way.index(name) for name in columns]
        self.spots = [columns.index(name) for name in way]


def _set_or_drop(held, values, number):
    """Keeps a number, but no 0."""
    if number:
        held[values] = number
    else:
        held.pop(values, None)


class Numbers:
    """The numbers of the columns for the values on their ways, and the sums of the columns; 0 is not kept.

    `tables` is a dict from the names of tables to dicts of their rows; it is changed.
    """

    def __init__(self, question, forest, tables):
        self._aboves = dict(forest)
        self._paths = ways_of(forest)
        self._tables = tables
        self._tops = [column for column in self._paths if self._aboves[column] is None]
        self._belows = {column: [] for column in self._paths}
        for column, above in forest:
            if above is not None:
                self._belows[above].append(column)
        self._ends = {column: [] for column in self._paths}
        self._feet = {table: [] for table in tables}
        for table, columns in question.clauses:
            foot = Foot(self._paths, columns)
            self._feet[table].append(foot)
            self._ends[foot.column].append((table, foot.places))
        self._numbers = {column: {} for column in self._paths}
        self._sums = {column: {} for column in self._paths}

    def length(self, column):
        """How many columns are on the way to a column."""
        return len(self._paths[column])

    def number_of(self, column, values):
        """The number of a column for the values on its way."""
        return self._numbers[column].get(values, 0)

    def sum_of(self, column, values):
        """The sum of a column for the values on the way above it."""
        return self._sums[column].get(values, 0)

    def whole(self):
        """The product of the sums of the columns without one above."""
        many = 1
        for column in self._tops:
            many = many * self.sum_of(column, ())
        return many

    def whole_with(self, given):
        """The number of readings with given values of some columns, above which no column has none."""
        many = 1
        for column in self._paths:
            values = tuple([given[name] for name in self._paths[column] if name in given])
            if column in given:
                many *= self._hits(column, values)
            elif self._aboves[column] is None or self._aboves[column] in given:
                many *= self.sum_of(column, values)
        return many

    def _hits(self, column, values):
        """1 if each clause whose foot a column is has a row with the values on its way, otherwise 0."""
        for table, places in self._ends[column]:
            if values_in(values, places) not in self._tables[table]:
                return 0
        return 1

    def _worked(self, column, values):
        """The number of a column for the values on its way, by what is kept of the columns below."""
        many = self._hits(column, values)
        for below in self._belows[column]:
            many *= self.sum_of(below, values)
        return many

    def _refresh(self, column, values, changed):
        """Works the number of a column again, and those above it, as long as they change; keeps which ones do."""
        old = self.number_of(column, values)
        new = self._worked(column, values)
        while old != new:
            changed[(column, values)] = True
            above = values[:-1]
            many = self.sum_of(column, above) + new - old
            _set_or_drop(self._numbers[column], values, new)
            _set_or_drop(self._sums[column], above, many)
            column, values = self._aboves[column], above
            if column is None:
                return
            old = self.number_of(column, values)
            new = self._worked(column, values)

    def _followed(self, table, row):
        """Works all numbers again that hang on a row; those that have changed, as they are now.

        All of them grow where a row is put in, and none where one is taken away, so that none changes back. Where the
        row does not agree with itself, it hangs on none of them, and all stay.
        """
        changed = {}
        for foot in self._feet[table]:
            self._refresh(foot.column, values_in(row, foot.spots), changed)
        return tuple(sorted([(column, values, self.number_of(column, values)) for column, values in changed]))

    def put(self, table, row):
        """Puts a row in; the ascending tuple of the triples of a column, values, and a number that has changed."""
        self._tables[table][row] = True
        return self._followed(table, row)

    def take(self, table, row):
        """Takes a row away; the ascending tuple of the triples of a column, values, and a number that has changed."""
        del self._tables[table][row]
        return self._followed(table, row)
