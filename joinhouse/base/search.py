"""The tuples of values for columns with which each of some clauses finds a row."""

from joinhouse.base.plans import Plan, mask_of

# What is remembered is forgotten beyond this, so that long searches do not fill the memory.
MAX_KEPT = 1000000

# Where more values than this are to be tried, a column with so many times fewer of them is looked for.
MANY = 10
MANY_TIMES = 4


def agreeing_rows(columns, rows, given):
    """The rows that agree with themselves where a column stands twice, and with given values of columns."""
    firsts = [columns.index(column) for column in columns]
    pairs = [(place, first) for place, first in enumerate(firsts) if place != first]
    told = [(place, given[column]) for place, column in enumerate(columns) if column in given]
    if not pairs and not told:
        return rows
    return [
        row for row in rows
        if all([row[place] == value for place, value in told]) and all([row[place] == row[at] for place, at in pairs])
    ]


def _free_clause(columns, rows, given, numbers):
    """A clause without its given columns: the numbers of the others, each once, and the rows of their values."""
    agreeing = agreeing_rows(columns, rows, given)
    free = [column for column in numbers if column in columns]
    places = [columns.index(column) for column in free]
    if places == list(range(len(columns))):
        return tuple([numbers[column] for column in free]), agreeing
    return tuple([numbers[column] for column in free]), [tuple([row[place] for place in places]) for row in agreeing]


def _plan_of(many, clauses):
    """A plan for so many columns."""
    spans = [0] * many
    for columns, rows in clauses:
        for place, column in enumerate(columns):
            span = len(set([row[place] for row in rows]))
            spans[column] = min(span, spans[column]) if spans[column] else span
    return Plan([mask_of(columns) for columns, _ in clauses], [len(rows) for _, rows in clauses], spans)


def _common_values(hits):
    """The list of the values that are in each of some dicts."""
    least = min(hits, key=len)
    if len(hits) == 1:
        return list(least)
    return [value for value in least if all([value in hit for hit in hits])]


class Search:
    """Clauses whose columns are told by their numbers, with the rows that each of them can read.

    A clause is a pair of a tuple of different columns and of different rows of values for them. Each of so many
    columns is in some clause. What was found out about some columns, by the values of the columns around them, is
    kept, so that it is found out once.
    """

    def __init__(self, many, clauses):
        self._many = many
        self._clauses = clauses
        self._possible = all([len(rows) > 0 for _, rows in clauses])
        self._plan = _plan_of(many, clauses)
        self._stops = {}
        self._at = [None] * many
        self._indexes = {}
        self._looks = {}
        self._opens = {}
        self._numbers = {}
        self._choices = {}
        self._kept = 0

    def is_open(self):
        """Whether there is any tuple."""
        return self._possible and self._are_open(self._begin())

    def how_many(self):
        """How many tuples there are."""
        return self._number_behind(self._begin()) if self._possible else 0

    def each_tuple(self):
        """A generator of all tuples, ascending."""
        if self.is_open():
            yield from self._each_longer((), self._many)

    def each_head(self, many):
        """A generator of the values that so many first columns have in the tuples, ascending, each of them once."""
        if self.is_open():
            yield from self._each_longer((), many)

    def _each_longer(self, values, many):
        """A generator of all tuples for so many first columns that begin with values of which some are known to do."""
        column = len(values)
        if column == many:
            yield values
        else:
            stop = self._stop_from(column)
            key = (column, *self._key(stop))
            tried, known = self._ascending_values(stop, column, key)
            behind = self._plan.behind(stop.mask, column)
            some = []
            for value in tried:
                self._at[column] = value
                if known or self._are_open(behind):
                    some.append(value)
                    longer = (*values, value)
                    yield from self._each_longer(longer, many)
            if not known:
                self._keep(self._choices, key, tuple(some), 1 + len(some))

    def _ascending_values(self, stop, column, key):
        """The ascending values that a column of a stop can have, and whether all columns of it can get values then."""
        found = self._choices.get(key)
        if found is None and stop.sides and column not in stop.begins:
            found = self._values_at(stop, column)
        if found is None:
            return sorted(_common_values(self._hits(stop, column))), False
        return found, True

    def each_anyhow(self):
        """A generator of all tuples in any order, which is quicker than to sort them by trying in this order."""
        if self.is_open():
            begin = self._begin()
            yield from self._each_filled(begin)

    def _each_filled(self, stops):
        """A generator of all tuples with what the columns have, and with values for stops that are open."""
        if not stops:
            yield tuple([self._at[column] for column in range(self._many)])
        else:
            stop, *others = stops
            first, tried = self._tried(stop)
            key = (first, *self._key(stop))
            known = key in self._choices
            if known:
                tried = self._choices[key]
            behind = self._plan.behind(stop.mask, first)
            left = [*behind, *others]
            some = []
            for value in tried:
                self._at[first] = value
                if known or self._are_open(behind):
                    some.append(value)
                    yield from self._each_filled(left)
            if not known:
                self._keep(self._choices, key, tuple(sorted(some)), 1 + len(some))

    def _stop_from(self, column):
        """The stop of a column and those behind it, where all columns ahead of it have values."""
        if column not in self._stops:
            rest = (1 << self._many) - (1 << column)
            self._stops[column] = self._plan.stop(self._plan.grown(1 << column, rest))
        return self._stops[column]

    def _begin(self):
        """The stops of all columns."""
        return [self._plan.stop(mask) for mask in self._plan.parted((1 << self._many) - 1)]

    def _index(self, number, known, column):
        """For a clause, a dict from values of columns to the values that another column has beside them."""
        if (number, known, column) not in self._indexes:
            columns, rows = self._clauses[number]
            places = [columns.index(one) for one in known]
            place = columns.index(column)
            index = {}
            for row in rows:
                beside = index.setdefault(tuple([row[at] for at in places]), {})
                beside[row[place]] = True
            self._indexes[(number, known, column)] = index
        return self._indexes[(number, known, column)]

    def _looks_at(self, stop, column):
        """The pairs of the columns with values, and of the index, of the clauses that have a column of a stop."""
        if (stop.mask, column) not in self._looks:
            looks = self._plan.looks(stop.mask, column)
            self._looks[(stop.mask, column)] = [(known, self._index(at, known, column)) for at, known in looks]
        return self._looks[(stop.mask, column)]

    def _hits(self, stop, column):
        """For each clause with a column of a stop, a dict of the values that the column can have by this clause."""
        return [
            index.get(tuple([self._at[one] for one in known]), {})
            for known, index in self._looks_at(stop, column)
        ]

    def _tried(self, stop):
        """The pair of the column of a stop that gets a value first, and of the values that it can have."""
        first = stop.begins[0]
        hits = self._hits(stop, first)
        least = min(hits, key=len)
        if len(least) > MANY:
            for column in stop.begins[1:]:
                others = self._hits(stop, column)
                fewest = min(others, key=len)
                if MANY_TIMES * len(fewest) < len(least):
                    first, hits, least = column, others, fewest
        return first, _common_values(hits)

    def _key(self, stop):
        """What tells a stop with the values of its sides."""
        return (stop.mask, *[self._at[column] for column in stop.sides])

    def _keep(self, held, key, found, weight):
        """Keeps what was found, unless too much is kept already."""
        self._kept += weight
        if self._kept > MAX_KEPT:
            self._opens.clear()
            self._numbers.clear()
            self._choices.clear()
            self._kept = weight
        held[key] = found

    def _are_open(self, stops):
        """Whether the columns of each of some stops can get values."""
        for stop in stops:
            if not self._is_open_at(stop):
                return False
        return True

    def _is_open_at(self, stop):
        """Whether the columns of a stop can get values."""
        key = self._key(stop)
        found = self._opens.get(key)
        if found is None:
            found = False
            first, tried = self._tried(stop)
            behind = self._plan.behind(stop.mask, first)
            for value in tried:
                self._at[first] = value
                if self._are_open(behind):
                    found = True
                    break
            self._keep(self._opens, key, found, 1)
        return found

    def _number_behind(self, stops):
        """In how many ways the columns of some stops can get values."""
        many = 1
        for stop in stops:
            if many:
                many *= self._number_at(stop)
        return many

    def _number_at(self, stop):
        """In how many ways the columns of a stop can get values."""
        key = self._key(stop)
        found = self._numbers.get(key)
        if found is None:
            found = 0
            first, tried = self._tried(stop)
            behind = self._plan.behind(stop.mask, first)
            for value in tried:
                self._at[first] = value
                found += self._number_behind(behind)
            self._keep(self._numbers, key, found, 1)
        return found

    def _values_at(self, stop, column):
        """The ascending tuple of the values of one column with which all columns of a stop can get values."""
        key = (column, *self._key(stop))
        found = self._choices.get(key)
        if found is None:
            some = {}
            first, tried = self._tried(stop)
            behind = self._plan.behind(stop.mask, first)
            for value in tried:
                self._at[first] = value
                if first != column:
                    for other in self._values_behind(behind, column):
                        some[other] = True
                elif self._are_open(behind):
                    some[value] = True
            found = tuple(sorted(some))
            self._keep(self._choices, key, found, 1 + len(found))
        return found

    def _values_behind(self, stops, column):
        """The values of one column with which the columns of all of some stops can get values."""
        if not self._are_open([stop for stop in stops if not stop.mask >> column & 1]):
            return ()
        values = [self._values_at(stop, column) for stop in stops if stop.mask >> column & 1]
        return values[0]


def _free_numbers(question, given):
    """A dict from the columns of a question without a given value to their numbers."""
    free = [column for column in question.columns if column not in given]
    return {column: number for number, column in enumerate(free)}


def _search_of(question, rows, given):
    """The search for readings of a question in tables of rows, without the columns that have given values."""
    numbers = _free_numbers(question, given)
    clauses = [_free_clause(columns, rows.get(table, ()), given, numbers) for table, columns in question.clauses]
    return Search(len(numbers), clauses)


def each_found(question, rows, given):
    """A generator of all readings in tables of rows with given values of some columns, ascending."""
    search = _search_of(question, rows, given)
    numbers = _free_numbers(question, given)
    for values in search.each_tuple():
        if given:
            yield tuple([given[column] if column in given else values[numbers[column]] for column in question.columns])
        else:
            yield values


def each_found_part(question, rows, columns):
    """A generator of the values that some different columns have in readings, ascending, each tuple of them once."""
    ordered = [*columns, *[column for column in question.columns if column not in columns]]
    numbers = {column: number for number, column in enumerate(ordered)}
    clauses = [_free_clause(names, rows.get(table, ()), {}, numbers) for table, names in question.clauses]
    search = Search(len(numbers), clauses)
    many = len(columns)
    yield from search.each_head(many)


def found_until(question, rows, most):
    """The list of the readings in tables of rows, in any order, of which no more than so many are looked for."""
    search = _search_of(question, rows, {})
    found = []
    for values in search.each_anyhow():
        if len(found) == most:
            break
        found.append(values)
    return found


def is_found(question, rows, given):
    """Whether there is any reading in tables of rows with given values of some columns."""
    return _search_of(question, rows, given).is_open()


def count_found(question, rows, given):
    """The number of readings in tables of rows with given values of some columns, however many there are."""
    return _search_of(question, rows, given).how_many()
