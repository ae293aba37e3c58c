"""By which rows each answer is given: polynomials whose unknowns are the rows of a store."""

from joinhouse.base.choices import all_chosen
from joinhouse.base.questions import MAX_CLAUSES, are_alike, check_comparable, check_questions
from joinhouse.base.readings import are_values, listed_readings
from joinhouse.base.search import count_found
from joinhouse.base.stores import Store, check_stores, fits, frozen_answer, is_entry
from joinhouse.base.words import is_ascending, is_count, is_integer, is_name, is_pair, is_row, power
from joinhouse.errors import InvalidOperation, InvalidRow, InvalidTable
from joinhouse.fold.maps import clause_rows, frozen_part

MAX_LISTED = 20000
MAX_TIMES = 64


def _is_triple(value):
    """Whether the value is a triple of a table, a row, and how many times it stands in a product."""
    if not isinstance(value, tuple) or len(value) != 3 or not is_entry(value[:2]):
        return False
    return is_integer(value[2]) and 1 <= value[2] <= MAX_TIMES


def _is_product(value):
    """Whether the value is an ascending tuple of triples, with no pair of a table and a row twice."""
    if not isinstance(value, tuple) or not all([_is_triple(triple) for triple in value]):
        return False
    return is_ascending([triple[:2] for triple in value])


def _are_parts(value):
    """Whether the value is a dict from products to integers of at least 1."""
    if not isinstance(value, dict) or not all([_is_product(product) for product in value]):
        return False
    return all([is_count(number) and number > 0 for number in value.values()])


def _are_entries(value):
    """Whether the value is an ascending tuple of pairs of a table and a row."""
    return isinstance(value, tuple) and all([is_entry(pair) for pair in value]) and is_ascending(value)


def _check_amounts(value):
    """Refuses what is no dict from pairs of a table and a row to integers of at least 0."""
    if not isinstance(value, dict) or not all([is_entry(pair) and is_count(value[pair]) for pair in value]):
        raise InvalidOperation("no dict from pairs of a table and a row to numbers")


def _multiplied(one, other):
    """The product of two products."""
    times = dict([(triple[:2], triple[2]) for triple in one])
    for triple in other:
        times[triple[:2]] = times.get(triple[:2], 0) + triple[2]
    return tuple(sorted([(*pair, times[pair]) for pair in times]))


def _times_of(product, pair):
    """How many times a pair of a table and a row stands in a product."""
    return sum([triple[2] for triple in product if triple[:2] == pair])


def _worth(product, amounts):
    """What a product comes to with some amounts of rows, which are there once otherwise."""
    worth = 1
    for table, row, times in product:
        worth *= power(amounts.get((table, row), 1), times)
    return worth


def _price(product, prices):
    """The sum of the prices of the rows of a product, each as many times as it stands there."""
    return sum([prices.get(triple[:2], 0) * triple[2] for triple in product])


def _told_triple(triple):
    """A row of a product as a text."""
    table, row, times = triple
    values = " ".join([str(number) for number in row])
    return f"{table}({values})" if times == 1 else f"{table}({values})^{times}"


def _told_product(product, number):
    """A product as a text behind its number, which is left out if it is 1."""
    rows = [_told_triple(triple) for triple in product]
    return " ".join(rows if rows and number == 1 else [str(number), *rows])


class Whence:
    """A polynomial: products of rows, each with its number. It never changes."""

    def __init__(self, parts):
        if not _are_parts(parts):
            raise InvalidOperation("no dict from products to numbers")
        self._parts = {product: parts[product] for product in sorted(parts)}

    @property
    def parts(self):
        """A dict from the products, ascending, to their numbers."""
        return {product: self._parts[product] for product in self._parts}

    @property
    def unknowns(self):
        """The ascending tuple of the pairs of a table and a row in the products."""
        return tuple(sorted(set([triple[:2] for product in self._parts for triple in product])))

    @property
    def ways(self):
        """The sum of the numbers."""
        return sum(list(self._parts.values()))

    @property
    def needed(self):
        """The ascending tuple of the pairs of a table and a row that stand in each product."""
        products = list(self._parts)
        if not products:
            return ()
        pairs = [triple[:2] for triple in products[0]]
        return tuple([pair for pair in pairs if all([_times_of(product, pair) > 0 for product in products])])

    def evaluated(self, amounts):
        """What the polynomial comes to if rows are there so many times."""
        _check_amounts(amounts)
        return sum([number * _worth(product, amounts) for product, number in self._parts.items()])

    def least(self, prices):
        """The least price of a product, None if there is none."""
        _check_amounts(prices)
        return min([_price(product, prices) for product in self._parts], default=None)

    def greatest(self, prices):
        """The greatest price of a product, None if there is none."""
        _check_amounts(prices)
        return max([_price(product, prices) for product in self._parts], default=None)

    def without(self, rows):
        """This polynomial without the products in which one of some rows stands."""
        if not _are_entries(rows):
            raise InvalidOperation("no ascending tuple of pairs of a table and a row")
        struck = {pair: True for pair in rows}
        return Whence({
            product: number for product, number in self._parts.items()
            if not any([triple[:2] in struck for triple in product])
        })

    def put_in(self, table, row, other):
        """This polynomial with another one in the place of a row."""
        if not is_name(table):
            raise InvalidTable("no name of a table")
        if not is_row(row):
            raise InvalidRow("no row")
        if not isinstance(other, Whence):
            raise InvalidOperation("no whence")
        powers = [Whence({(): 1})]
        found = {}
        for product, number in self._parts.items():
            times = _times_of(product, (table, row))
            while len(powers) <= times:
                powers.append(powers[-1] * other)
            rest = tuple([triple for triple in product if triple[:2] != (table, row)])
            for inner, many in powers[times].parts.items():
                whole = _multiplied(rest, inner)
                found[whole] = found.get(whole, 0) + number * many
        return Whence(found)

    def __add__(self, other):
        if not isinstance(other, Whence):
            return NotImplemented
        found = {}
        for parts in (self._parts, other._parts):
            for product, number in parts.items():
                found[product] = found.get(product, 0) + number
        return Whence(found)

    def __mul__(self, other):
        if not isinstance(other, Whence):
            return NotImplemented
        found = {}
        for one, number in self._parts.items():
            for product, many in other._parts.items():
                whole = _multiplied(one, product)
                found[whole] = found.get(whole, 0) + number * many
        return Whence(found)

    def __contains__(self, value):
        return _is_product(value) and value in self._parts

    def __len__(self):
        return len(self._parts)

    def __iter__(self):
        return iter(self._parts)

    def __eq__(self, other):
        return isinstance(other, Whence) and self._parts == other._parts

    def __str__(self):
        if not self._parts:
            return "0"
        return " + ".join([_told_product(product, number) for product, number in self._parts.items()])


class Products:
    """Which product each reading of a question has."""

    def __init__(self, question):
        columns = question.columns
        self._places = [(table, [columns.index(column) for column in names]) for table, names in question.clauses]
        # Rows of different tables stand in the order of the clauses, each of them once.
        self._simple = question.is_plain

    def of_reading(self, reading):
        """The product of a reading."""
        pairs = [(table, tuple([reading[place] for place in places])) for table, places in self._places]
        if self._simple:
            return tuple([(*pair, 1) for pair in pairs])
        times = {}
        for pair in pairs:
            times[pair] = times.get(pair, 0) + 1
        return tuple(sorted([(*pair, times[pair]) for pair in times]))

    def of_all(self, readings):
        """The whence of an answer with some readings."""
        parts = {}
        for reading in readings:
            product = self.of_reading(reading)
            parts[product] = parts.get(product, 0) + 1
        return Whence(parts)


def _answer_places(question):
    """The list of the places of the asked columns in a reading."""
    return [question.columns.index(column) for column in question.asked]


def _by_answers(question, readings):
    """A dict from the answers that some readings give to the lists of these readings."""
    places = _answer_places(question)
    found = {}
    for reading in readings:
        some = found.setdefault(tuple([reading[place] for place in places]), [])
        some.append(reading)
    return found


def whence_of(question, store, answer):
    """The whence of a value, which can be no answer."""
    readings = listed_readings(question, store)
    if not are_values(len(question.asked), answer):
        return Whence({})
    return Products(question).of_all(_by_answers(question, readings).get(answer, []))


def whences(question, store):
    """A dict from all answers, ascending, to their whences."""
    found = _by_answers(question, listed_readings(question, store))
    products = Products(question)
    return {answer: products.of_all(found[answer]) for answer in sorted(found)}


def lost_with(question, store, rows):
    """The ascending tuple of the answers that a question has in a store, and not without some rows of it."""
    check_questions(question)
    check_stores(store)
    if not _are_entries(rows) or not all([pair in store for pair in rows]):
        raise InvalidOperation("no ascending tuple of pairs in the store")
    found = _by_answers(question, listed_readings(question, store))
    struck = {pair: True for pair in rows}
    products = Products(question)
    return tuple([
        answer for answer in sorted(found)
        if all([any([triple[:2] in struck for triple in products.of_reading(reading)]) for reading in found[answer]])
    ])


def _part_with(question, clauses, one, other):
    """The pair of some rows of the frozen store of one of two questions, and of the frozen answer of this one."""
    return frozen_part(question, clauses, {**one.tables, **other.tables}), frozen_answer(question)


def _are_read_once(one, other):
    """Whether a reading of one question, for the frozen answer of another one, reads all its frozen rows once each."""
    if len(one) != len(other):
        return False
    led = dict(zip(one.asked, other.asked))
    onto = 0
    # The readings that leave out some rows are taken away from all of them.
    for many in range(1, len(other) + 1):
        readings = sum([count_found(one, clause_rows(some), led) for some in all_chosen(other.clauses, many)])
        onto += readings if (len(other) - many) & 1 == 0 else -readings
    return onto > 0


def _can_be_judged(one, other, clauses):
    """Whether both questions have few readings enough in a store with some frozen rows."""
    rows = clause_rows(clauses)
    return max([count_found(question, rows, {}) for question in (one, other)]) <= MAX_LISTED


def parting_whence(one, other):
    """Any pair of a store that fits both questions and of an answer with unlike whences, None if they are alike."""
    check_comparable(one, other)
    if are_alike(one, other):
        return None
    # If each of both read all frozen rows of the other one once each, they would be alike.
    question = other if _are_read_once(other, one) else one
    whole = _part_with(question, question.clauses, one, other)
    if _can_be_judged(one, other, question.clauses):
        return whole
    parts = [(some, clauses) for many in range(1, MAX_CLAUSES) for some in (one, other)
             for clauses in all_chosen(some.clauses, many)]
    for question, clauses in parts:
        if _can_be_judged(one, other, clauses):
            store, answer = _part_with(question, clauses, one, other)
            if whence_of(one, store, answer) != whence_of(other, store, answer):
                return store, answer
    return whole


def is_parting_whence(one, other, value):
    """Whether the value is a pair of a store that fits both questions and of an answer with unlike whences."""
    check_comparable(one, other)
    if not is_pair(value) or not isinstance(value[0], Store) or not isinstance(value[1], tuple):
        return False
    store, answer = value
    if not fits(store, one) or not fits(store, other):
        return False
    return whence_of(one, store, answer) != whence_of(other, store, answer)
