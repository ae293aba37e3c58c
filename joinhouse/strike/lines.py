"""Lines of clauses, and how few rows are to be struck so that no reading is left."""

from joinhouse.base.plans import columns_in
from joinhouse.base.questions import check_plain, check_questions
from joinhouse.base.readings import are_values, rows_for
from joinhouse.base.search import agreeing_rows, found_until, is_found
from joinhouse.base.stores import check_fit, check_stores
from joinhouse.base.words import are_different, are_names, is_ascending, is_count, is_index, is_pair
from joinhouse.errors import InvalidOperation, TooMany
from joinhouse.shape.agreeing import values_in
from joinhouse.shape.masks import clause_masks
from joinhouse.strike.flows import flow_paths, greatest_flow

MAX_FORCE = 16


def _goes_on(masks, some, last, at):
    """Whether a clause can stand behind the last one of a set of clauses."""
    ahead = 0
    behind = 0
    for other, mask in enumerate(masks):
        if some >> other & 1:
            ahead |= mask
        else:
            behind |= mask
    # What clauses on both sides have, those at the border have, too.
    return ahead & behind & ~(masks[last] & masks[at]) == 0


def line_of(question):
    """Any line of a question, None if there is none."""
    check_questions(question)
    masks = clause_masks(question)
    every = (1 << len(masks)) - 1
    # How a set of clauses with a last one is reached matters only for the line that is told.
    lines = {(1 << at, at): (at,) for at in range(len(masks))}
    todo = list(lines)
    while todo:
        some, last = todo.pop()
        line = lines[(some, last)]
        if some == every:
            return line
        for at in columns_in(every & ~some):
            longer = (some | 1 << at, at)
            if longer not in lines and _goes_on(masks, some, last, at):
                lines[longer] = (*line, at)
                todo.append(longer)
    return None


def is_line(question, value):
    """Whether the value is a line of a question."""
    check_questions(question)
    many = len(question)
    if not isinstance(value, tuple) or len(value) != many or not all([is_index(many, at) for at in value]):
        return False
    if not are_different(value):
        return False
    for column in question.columns:
        places = [value.index(at) for at in question.having(column)]
        if max(places) - min(places) >= len(places):
            return False
    return True


def _chain(masks, first, last, third):
    """Any chain from one clause to another one beside a third one, None if there is none."""
    chains = {first: (first,)}
    todo = [first]
    while todo:
        behind = []
        for one in todo:
            for other, mask in enumerate(masks):
                if other not in chains and masks[one] & mask & ~masks[third]:
                    chains[other] = (*chains[one], other)
                    behind.append(other)
        todo = behind
    return chains.get(last)


def _three_ends(one, two, three):
    """The triples of the ends of the chains of a trio, and of the clause beside each of them."""
    return (one, two, three), (one, three, two), (two, three, one)


def trio_of(question):
    """Any trio of a question, None if there is none."""
    check_questions(question)
    masks = clause_masks(question)
    every = list(range(len(masks)))
    for ends in [(one, two, three) for three in every for two in every[:three] for one in every[:two]]:
        chains = [_chain(masks, first, last, third) for first, last, third in _three_ends(*ends)]
        if None not in chains:
            return (*ends, *chains)
    return None


def _is_chain(masks, first, last, third, value):
    """Whether the value is a chain from one clause to another one beside a third one."""
    if not isinstance(value, tuple) or len(value) < 2 or not all([is_index(len(masks), at) for at in value]):
        return False
    if not are_different(value) or value[0] != first or value[-1] != last:
        return False
    return all([masks[one] & masks[other] & ~masks[third] != 0 for one, other in zip(value, value[1:])])


def is_trio(question, value):
    """Whether the value is a trio of a question."""
    check_questions(question)
    masks = clause_masks(question)
    if not isinstance(value, tuple) or len(value) != 6 or not all([is_index(len(masks), at) for at in value[:3]]):
        return False
    if not is_ascending(value[:3]):
        return False
    one, two, three = value[:3]
    return all([_is_chain(masks, *ends, chain) for ends, chain in zip(_three_ends(one, two, three), value[3:])])


def _check_prices(store, prices):
    """Refuses what is no dict from pairs in a store to integers of at least 0."""
    if prices is not None:
        if not isinstance(prices, dict) or not all([pair in store and is_count(prices[pair]) for pair in prices]):
            raise InvalidOperation("no dict from pairs in the store to prices")


def _are_kept(question, value):
    """Whether the value is an ascending tuple of tables of a question without at least one of them."""
    if not are_names(value) or not is_ascending(value) or len(value) >= len(question.tables):
        return False
    return all([table in question.tables for table in value])


class Market:
    """A plain question in a store that fits it, where rows have prices, but those of some tables are kept."""

    def __init__(self, question, store, prices, kept):
        check_questions(question)
        check_stores(store)
        _check_prices(store, prices)
        if not _are_kept(question, kept):
            raise InvalidOperation("no ascending tuple of tables of the question without at least one of them")
        check_fit(question, store)
        check_plain(question)
        self.plain = question
        self.held = store
        self.prices = {} if prices is None else prices
        self.kept = kept

    def price(self, pair):
        """The price of a row."""
        return self.prices.get(pair, 1)

    def price_of_all(self, strike):
        """The price of a strike."""
        return sum([self.price(pair) for pair in strike])

    def is_strike(self, value):
        """Whether the value is a strike."""
        if not isinstance(value, tuple) or not all([pair in self.held for pair in value]) or not is_ascending(value):
            return False
        free = [table for table in self.plain.tables if table not in self.kept]
        if not all([table in free for table, _ in value]):
            return False
        struck = {pair: True for pair in value}
        rows = rows_for(self.plain, self.held)
        left = {table: tuple([row for row in rows[table] if (table, row) not in struck]) for table in rows}
        return not is_found(self.plain, left, {})

    def _are_readings(self, value):
        """Whether the value is an ascending tuple of pairs of different tuples of values and of integers."""
        many = len(self.plain.columns)
        if not isinstance(value, tuple) or not all([is_pair(pair) and are_values(many, pair[0]) for pair in value]):
            return False
        return all([is_count(times) and times > 0 for _, times in value]) and is_ascending([pair[0] for pair in value])

    def is_load(self, value):
        """Whether the value is a load."""
        if not self._are_readings(value):
            return False
        columns = self.plain.columns
        for table, names in self.plain.clauses:
            places = [columns.index(name) for name in names]
            read = {}
            for reading, times in value:
                pair = (table, values_in(reading, places))
                if pair not in self.held:
                    return False
                read[pair] = read.get(pair, 0) + times
            if table not in self.kept and not all([read[pair] <= self.price(pair) for pair in read]):
                return False
        return True


def _size(load):
    """The size of a load."""
    return sum([times for _, times in load])


class Network:
    """The rows of a question with a line as arcs of paths, each of which is a reading.

    A place is told by how many clauses of the line are behind, and by the values of the columns that the last one of
    them and the next one have: these are all that clauses on both sides have.
    """

    def __init__(self, market, line):
        self._columns = market.plain.columns
        self._clauses = [market.plain.clauses[at] for at in line]
        borders = [[], *[self._common(at) for at in range(len(line) - 1)], []]
        places = {(0, ()): 0}
        found = []
        for at, (table, columns) in enumerate(self._clauses):
            begins, ends = [[columns.index(name) for name in border] for border in borders[at:at + 2]]
            for row in agreeing_rows(columns, market.held.rows(table), {}):
                begin = places.setdefault((at, values_in(row, begins)), len(places))
                # The last place gets its number at the end, as it has the greatest one.
                end = (at + 1, values_in(row, ends))
                found.append((begin, -1 if at + 1 == len(line) else places.setdefault(end, len(places)), (table, row)))
        self._many = len(places) + 1
        self._pairs = [arc[2] for arc in found]
        finite = [market.price(pair) for pair in self._pairs if pair[0] not in market.kept]
        beyond = sum(finite) + 1
        self._arcs = [
            (begin, len(places) if end < 0 else end, beyond if pair[0] in market.kept else market.price(pair))
            for begin, end, pair in found
        ]

    def _common(self, at):
        """The list of the columns that a clause of the line and the next one have."""
        columns, others = self._clauses[at][1], self._clauses[at + 1][1]
        return [name for name in self._columns if name in columns and name in others]

    def _reading(self, path):
        """The reading whose rows have these numbers."""
        values = {}
        for at, (_, columns) in zip(path, self._clauses):
            for name, value in zip(columns, self._pairs[at][1]):
                values[name] = value
        return tuple([values[name] for name in self._columns])

    def paper(self):
        """A pair of a strike and of a load, whose price and size are equal."""
        flows, reached = greatest_flow(self._many, self._arcs)
        strike = [pair for pair, (begin, end, _) in zip(self._pairs, self._arcs) if reached[begin] and not reached[end]]
        paths = flow_paths(self._many, self._arcs, flows)
        return tuple(sorted(strike)), tuple(sorted([(self._reading(path), times) for path, times in paths]))


def strike_paper(question, store, *, prices=None, kept=()):
    """Any pair of a strike and of a load, whose price and size are equal."""
    market = Market(question, store, prices, kept)
    line = line_of(question)
    if line is None:
        raise InvalidOperation("the question has no line")
    return Network(market, line).paper()


def cheapest_strike(question, store, *, prices=None, kept=()):
    """Any strike of the least price."""
    return strike_paper(question, store, prices=prices, kept=kept)[0]


def greatest_load(question, store, *, prices=None, kept=()):
    """Any load of the greatest size."""
    return strike_paper(question, store, prices=prices, kept=kept)[1]


def is_strike(question, store, value, *, prices=None, kept=()):
    """Whether the value is a strike, of whatever price."""
    return Market(question, store, prices, kept).is_strike(value)


def is_load(question, store, value, *, prices=None, kept=()):
    """Whether the value is a load, of whatever size."""
    return Market(question, store, prices, kept).is_load(value)


def is_strike_paper(question, store, value, *, prices=None, kept=()):
    """Whether the value is a pair of a strike and of a load, whose price and size are equal."""
    market = Market(question, store, prices, kept)
    if not is_pair(value) or not market.is_load(value[1]) or not market.is_strike(value[0]):
        return False
    return market.price_of_all(value[0]) == _size(value[1])


def _read_pairs(question, reading):
    """The list of the pairs of a table and a row that a reading reads."""
    values = dict(zip(question.columns, reading))
    return [(table, tuple([values[column] for column in columns])) for table, columns in question.clauses]


def _fewest_hits(sets, many):
    """In how few sets of so many things all of them are."""
    found = {0: True}
    times = 0
    while (1 << many) - 1 not in found:
        times += 1
        longer = {}
        for some in found:
            least = ~some & some + 1
            for other in sets:
                if other & least:
                    longer[some | other] = True
        found = longer
    return times


def _most_apart(near, some):
    """How many things of a set there are at most of which none is near another one."""
    if not some:
        return 0
    first = columns_in(some)[0]
    rest = some & ~(1 << first)
    beside = 1 + _most_apart(near, rest & ~near[first])
    # Without neighbours it is always one of them.
    return max(beside, _most_apart(near, rest)) if near[first] & rest else beside


def forced_numbers(question, store):
    """The pair of how few rows must be struck, and of how many readings have no row in common, if they are few."""
    market = Market(question, store, None, ())
    readings = found_until(question, rows_for(question, market.held), MAX_FORCE + 1)
    if len(readings) > MAX_FORCE:
        raise TooMany(MAX_FORCE)
    sets = {}
    for at, reading in enumerate(readings):
        for pair in _read_pairs(question, reading):
            sets[pair] = sets.get(pair, 0) | 1 << at
    near = [0] * len(readings)
    for some in sets.values():
        for at in columns_in(some):
            near[at] |= some & ~(1 << at)
    return _fewest_hits(sorted(set(list(sets.values()))), len(readings)), _most_apart(near, (1 << len(readings)) - 1)
