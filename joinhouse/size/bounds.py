"""How many answers a plain question can have: coverings, fillings, and stores that reach the bound."""

from joinhouse.base.choices import all_numbered
from joinhouse.base.questions import check_plain
from joinhouse.base.stores import MAX_ROWS, Store, check_stores, fits
from joinhouse.base.words import is_ascending, is_dict_from, is_index, is_integer, is_name, is_pair, power
from joinhouse.errors import InvalidKeys, InvalidNumber, InvalidSizes, InvalidStore, InvalidWeights, TooMany
from joinhouse.size.quotients import (
    ONE,
    added,
    common_denominator,
    is_at_most,
    is_fraction,
    lowest,
    multiplied,
    whole_of,
)
from joinhouse.size.simplex import greatest_sum

MAX_SIZE = 9
MAX_PART = 2
MAX_KEYS = 20
MAX_GROWTH = 1000
MAX_COVERING_PART = 60
MAX_FILLING_PART = 120


def _is_size(value):
    """Whether the value is a fraction from 0 to 9 with a denominator of 1 or 2."""
    return is_fraction(value) and value[1] <= MAX_PART and 0 <= value[0] <= MAX_SIZE * value[1]


def are_sizes(question, value):
    """Whether the value is a dict from just the tables of a plain question to sizes."""
    check_plain(question)
    return is_dict_from(tuple(question.tables), value) and all([_is_size(size) for size in value.values()])


def _is_key(tables, value):
    """Whether the value is a triple of one of some tables and of two different places of it."""
    if not isinstance(value, tuple) or len(value) != 3 or not is_name(value[0]) or value[0] not in tables:
        return False
    table, one, other = value
    return is_index(tables[table], one) and is_index(tables[table], other) and one != other


def _are_keys_of(tables, value):
    """Whether the value is an ascending tuple of keys of tables, not too many."""
    if not isinstance(value, tuple) or len(value) > MAX_KEYS:
        return False
    return all([_is_key(tables, key) for key in value]) and is_ascending(value)


def are_keys(question, value):
    """Whether the value is keys of a plain question."""
    check_plain(question)
    return _are_keys_of(question.tables, value)


def _check_keys(question, keys):
    """Refuses what is no plain question, and no keys of it."""
    if not are_keys(question, keys):
        raise InvalidKeys("no keys of the question")


def _check_sizes(question, sizes):
    """Refuses what is no plain question, and no sizes of it."""
    if not are_sizes(question, sizes):
        raise InvalidSizes("no sizes of the question")


def _decided_from(column, links):
    """The ascending tuple of the columns that one comes to from a column along links."""
    found = {column: True}
    todo = [column]
    while todo:
        here = todo.pop()
        for one, other in links:
            if one == here and other not in found:
                found[other] = True
                todo.append(other)
    return tuple(sorted(found))


def decided_by(question, keys):
    """A dict from the columns to the ascending tuples of the columns that they decide."""
    _check_keys(question, keys)
    columns = {table: names for table, names in question.clauses}
    links = [(columns[table][one], columns[table][other]) for table, one, other in keys]
    return {column: _decided_from(column, links) for column in question.columns}


def reached_by(question, keys):
    """A dict from the tables to the ascending tuples of the columns that their clauses reach."""
    decided = decided_by(question, keys)
    return {
        table: tuple(sorted(set([other for column in names for other in decided[column]])))
        for table, names in question.clauses
    }


def _weights_over(names, numbers, denominator):
    """The weights of ascending names, over one denominator."""
    return tuple([(name, lowest(number, denominator)) for name, number in zip(names, numbers) if number > 0])


def _best(question, sizes, keys):
    """The pair of a covering of the least price and of a filling of the greatest worth."""
    _check_sizes(question, sizes)
    reached = reached_by(question, keys)
    asked = sorted(question.asked)
    rows = [[1 if column in reached[table] else 0 for column in asked] for table in reached]
    limits = [whole_of(sizes[table], MAX_PART) for table in reached]
    filling, covering, over = greatest_sum(rows, limits)
    return _weights_over(reached, covering, over), _weights_over(asked, filling, MAX_PART * over)


def size_bound(question, sizes, keys):
    """The size bound: the least price of a covering, and the greatest worth of a filling."""
    return worth_of(_best(question, sizes, keys)[1])


def least_covering(question, sizes, keys):
    """Any covering of the least price."""
    return _best(question, sizes, keys)[0]


def greatest_filling(question, sizes, keys):
    """Any filling of the greatest worth."""
    return _best(question, sizes, keys)[1]


def _is_weight(value):
    """Whether the value is a pair of a name and of a fraction above 0."""
    return is_pair(value) and is_name(value[0]) and is_fraction(value[1]) and value[1][0] > 0


def _are_weights(value):
    """Whether the value is an ascending tuple of pairs of a name and of a fraction above 0, no name twice."""
    if not isinstance(value, tuple) or not all([_is_weight(pair) for pair in value]):
        return False
    return is_ascending([name for name, _ in value])


def _are_weights_of(names, value):
    """Whether the value is weights of some names."""
    return _are_weights(value) and all([name in names for name, _ in value])


def _is_covering_by(question, reached, value):
    """Whether the value is a covering where tables reach these columns."""
    if not _are_weights_of(question.tables, value):
        return False
    sums = [added([weight for table, weight in value if column in reached[table]]) for column in question.asked]
    return all([is_at_most(ONE, whole) for whole in sums])


def is_covering(question, keys, value):
    """Whether the value is a covering, of whatever price."""
    return _is_covering_by(question, reached_by(question, keys), value)


def _is_filling_by(question, sizes, reached, value):
    """Whether the value is a filling where tables reach these columns."""
    if not _are_weights_of(question.asked, value):
        return False
    sums = {table: added([weight for column, weight in value if column in reached[table]]) for table in reached}
    return all([is_at_most(sums[table], sizes[table]) for table in sums])


def is_filling(question, sizes, keys, value):
    """Whether the value is a filling, of whatever worth."""
    _check_sizes(question, sizes)
    return _is_filling_by(question, sizes, reached_by(question, keys), value)


def is_least_covering(question, sizes, keys, value):
    """Whether the value is a covering of the least price."""
    bound = size_bound(question, sizes, keys)
    return is_covering(question, keys, value) and price_of(question, sizes, value) == bound


def is_greatest_filling(question, sizes, keys, value):
    """Whether the value is a filling of the greatest worth."""
    bound = size_bound(question, sizes, keys)
    return is_filling(question, sizes, keys, value) and worth_of(value) == bound


def price_of(question, sizes, weights):
    """The price of weights of tables."""
    _check_sizes(question, sizes)
    if not _are_weights_of(question.tables, weights):
        raise InvalidWeights("no weights of tables of the question")
    return added([multiplied(weight, sizes[table]) for table, weight in weights])


def worth_of(weights):
    """The worth of weights."""
    if not _are_weights(weights):
        raise InvalidWeights("no weights")
    return added([weight for _, weight in weights])


def _times(numbers):
    """The product of some numbers."""
    whole = 1
    for number in numbers:
        whole *= number
    return whole


def _root(number, times):
    """The greatest integer that comes to at most a number if it is multiplied with itself so many times."""
    found = 0
    for bit in range(number.bit_length() // times, -1, -1):
        if power(found | 1 << bit, times) <= number:
            found |= 1 << bit
    return found


def let_by(question, keys, weights, store):
    """The greatest number of answers that a covering lets with the rows of a store."""
    reached = reached_by(question, keys)
    check_stores(store)
    if not _is_covering_by(question, reached, weights):
        raise InvalidWeights("no covering")
    over = common_denominator([weight for _, weight in weights])
    if over > MAX_COVERING_PART or not all([is_at_most(weight, ONE) for _, weight in weights]):
        raise InvalidWeights("a weight above 1, or a too great denominator")
    if not fits(store, question):
        raise InvalidStore("the store does not fit the question")
    powers = [power(len(store.rows(table)), whole_of(weight, over)) for table, weight in weights]
    return _root(_times(powers), over)


def keeps_keys(store, keys):
    """Whether a store keeps keys."""
    return broken_key(store, keys) is None


def broken_key(store, keys):
    """Any triple of a key and of two rows that agree at its first place and not at its second one, None if none do."""
    check_stores(store)
    if not _are_keys_of(store.tables, keys):
        raise InvalidKeys("no keys of tables of the store")
    for key in keys:
        table, one, other = key
        seen = {}
        for row in store.rows(table):
            first = seen.setdefault(row[one], row)
            if first[other] != row[other]:
                return key, first, row
    return None


def _checked_growth(question, sizes, keys, weights, number):
    """The least common denominator of a filling and all sizes; refuses what is no filling or no number to grow by."""
    if not is_filling(question, sizes, keys, weights):
        raise InvalidWeights("no filling")
    over = common_denominator([*[weight for _, weight in weights], *list(sizes.values())])
    if over > MAX_FILLING_PART:
        raise InvalidWeights("a too great denominator")
    if not is_integer(number) or not 1 <= number <= MAX_GROWTH:
        raise InvalidNumber(number)
    return over


def _coloured(colours, chosen, borne):
    """What a column is if the colours have these numbers and it bears some of them."""
    told = 0
    for name in borne:
        told = told * colours[name] + chosen[name]
    return told


def worst_store(question, sizes, keys, weights, number):
    """The worst store of a filling."""
    over = _checked_growth(question, sizes, keys, weights, number)
    colours = {name: power(number, whole_of(weight, over)) for name, weight in weights}
    decided = decided_by(question, keys)
    borne = {column: [name for name in colours if name in decided[column]] for column in question.columns}
    reached = {table: [name for name in colours if name in some] for table, some in reached_by(question, keys).items()}
    if sum([_times([colours[name] for name in reached[table]]) for table in reached]) > MAX_ROWS:
        raise TooMany(MAX_ROWS)
    rows = {}
    for table, columns in question.clauses:
        tuples = all_numbered([colours[name] for name in reached[table]])
        chosen = [dict(zip(reached[table], numbers)) for numbers in tuples]
        rows[table] = tuple([tuple([_coloured(colours, some, borne[column]) for column in columns]) for some in chosen])
    return Store(question.tables, rows)


def count_worst(question, sizes, keys, weights, number):
    """The number of answers in the worst store of a filling."""
    over = _checked_growth(question, sizes, keys, weights, number)
    return power(number, whole_of(worth_of(weights), over))
