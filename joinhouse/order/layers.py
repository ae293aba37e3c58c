"""Layered orders of columns, and readings that are told by their number along them."""

from joinhouse.base.orders import check_order, is_order
from joinhouse.base.plans import columns_in, mask_of
from joinhouse.base.questions import check_questions
from joinhouse.base.readings import is_reading
from joinhouse.base.stores import check_fit
from joinhouse.base.words import are_different, are_names, is_count, is_index, is_pair
from joinhouse.errors import InvalidNumber, InvalidOperation, InvalidReading, NotLayered, TooMany
from joinhouse.order.ladders import Ladder, Layers
from joinhouse.shape.knots import is_knot
from joinhouse.shape.masks import all_columns, clause_masks, named, near_masks, within

MAX_PART = 2000


def _home_of(masks, some):
    """The index of the first clause that has all columns of a set, None if there is none."""
    for at, mask in enumerate(masks):
        if within(some, mask):
            return at
    return None


def _needs(question, order):
    """For each column in an order the set of it and of its neighbours ahead of it."""
    near = near_masks(question)
    needs = []
    before = 0
    for column in order:
        number = question.columns.index(column)
        needs.append(near[number] & before | 1 << number)
        before |= 1 << number
    return needs


def _homes_of(question, order):
    """The list of the indices of the homes of the columns in an order, None for each that has none."""
    masks = clause_masks(question)
    return [_home_of(masks, need) for need in _needs(question, order)]


def is_layered(question, value):
    """Whether the value is a layered order."""
    check_questions(question)
    return is_order(question, value) and None not in _homes_of(question, value)


def _next_ones(question):
    """For each set of columns, the list of those that have a home behind just these."""
    masks = clause_masks(question)
    near = near_masks(question)
    return [
        [
            column for column in range(len(near))
            if not some >> column & 1 and _home_of(masks, near[column] & some | 1 << column) is not None
        ]
        for some in range(all_columns(question) + 1)
    ]


def _numbers_of_ends(nexts):
    """For each set of columns, in how many ways they can be followed until a layered order is whole."""
    numbers = [0] * len(nexts)
    numbers[-1] = 1
    for some in range(len(nexts) - 2, -1, -1):
        numbers[some] = sum([numbers[some | 1 << column] for column in nexts[some]])
    return numbers


def layered_order(question, *, begin=()):
    """Any layered order that begins with some columns, None if there is none."""
    check_questions(question)
    if not are_names(begin) or not are_different(begin) or not all([column in question.columns for column in begin]):
        raise InvalidOperation("no tuple of different columns of the question")
    nexts = _next_ones(question)
    numbers = _numbers_of_ends(nexts)
    order = []
    some = 0
    while len(order) < len(question.columns):
        good = [column for column in nexts[some] if numbers[some | 1 << column]]
        if len(order) < len(begin):
            good = [column for column in good if question.columns[column] == begin[len(order)]]
        if not good:
            return None
        order.append(question.columns[good[0]])
        some |= 1 << good[0]
    return tuple(order)


def count_layered(question):
    """How many layered orders there are."""
    check_questions(question)
    return _numbers_of_ends(_next_ones(question))[0]


def _reason(question, order):
    """Any reason against an order that is not layered."""
    masks = clause_masks(question)
    near = near_masks(question)
    place = _homes_of(question, order).index(None)
    some = _needs(question, order)[place]
    for column in columns_in(some):
        # The last column of the set is never apart, as it is a neighbour of all others.
        apart = some & ~near[column] & ~(1 << column)
        if apart:
            return "trio", *named(question, mask_of([column, columns_in(apart)[0]])), order[place]
    # All these are neighbours of one another: what no clause has, but for each of its columns some has the others.
    for column in columns_in(some):
        if _home_of(masks, some & ~(1 << column)) is None:
            some &= ~(1 << column)
    return "crown", named(question, some)


def layer_paper(question, order):
    """Any layer paper for an order: homes, or a reason."""
    check_questions(question)
    check_order(question, order)
    homes = _homes_of(question, order)
    return _reason(question, order) if None in homes else ("homes", tuple(homes))


def _are_homes(question, order, value):
    """Whether the value is a tuple of a home for each column in an order."""
    if not isinstance(value, tuple) or len(value) != len(order):
        return False
    masks = clause_masks(question)
    needs = _needs(question, order)
    return all([is_index(len(masks), home) and within(need, masks[home]) for home, need in zip(value, needs)])


def _is_trio(question, order, value):
    """Whether the value is a tuple of two columns that are no neighbours and of a neighbour of both behind them."""
    if len(value) != 3 or not all([column in order for column in value]):
        return False
    one, other = [question.columns.index(column) for column in value[:2]]
    if one >= other or near_masks(question)[one] >> other & 1:
        return False
    # All others of this set are neighbours of the last column, so that it is none of both.
    need = _needs(question, order)[order.index(value[2])]
    return within(1 << one | 1 << other, need)


def is_layer_paper(question, order, value):
    """Whether the value is a layer paper for an order."""
    check_questions(question)
    check_order(question, order)
    if not isinstance(value, tuple) or not value:
        return False
    if value[0] == "trio":
        return _is_trio(question, order, value[1:])
    if value[0] == "crown":
        return is_knot(question, value)
    return is_pair(value) and value[0] == "homes" and _are_homes(question, order, value[1])


class Ranked:
    """All readings of a question in a store, sorted by their values in a layered order. It never changes."""

    def __init__(self, question, store, order):
        check_fit(question, store)
        check_order(question, order)
        homes = _homes_of(question, order)
        if None in homes:
            raise NotLayered(_reason(question, order))
        self._question = question
        self._store = store
        self._order = order
        places = [order.index(column) for column in question.columns]
        ahead = []
        for place, need in enumerate(_needs(question, order)):
            known = [places[column] for column in columns_in(need)]
            ahead.append(tuple(sorted([at for at in known if at != place])))
        self._places = places
        self._layers = Layers(question, store, order, ahead, homes)
        self._readings = Ladder(self._layers, len(order))
        # Those of shorter beginnings are made when they are asked for.
        self._ladders = {len(order): self._readings}
        self._total = self._readings.height

    @property
    def question(self):
        """The question."""
        return self._question

    @property
    def store(self):
        """The store."""
        return self._store

    @property
    def order(self):
        """The layered order."""
        return self._order

    @property
    def total(self):
        """The number of readings."""
        return self._total

    def _reading(self, index):
        """The reading with an index that is there."""
        line = self._readings.at(index)
        return tuple([line[place] for place in self._places])

    def reading_at(self, index):
        """The reading with an index."""
        if not is_index(self._total, index):
            raise InvalidNumber(index)
        return self._reading(index)

    def index(self, reading):
        """The index of a reading."""
        if not is_reading(self._question, self._store, reading):
            raise InvalidReading("no reading of the question in the store")
        values = dict(zip(self._question.columns, reading))
        return self._readings.below(tuple([values[column] for column in self._order]))[0]

    def part(self, first, last):
        """The tuple of the readings from an index on and below another one."""
        if not is_index(self._total + 1, first):
            raise InvalidNumber(first)
        if not is_index(self._total + 1, last) or last < first:
            raise InvalidNumber(last)
        if last - first > MAX_PART:
            raise TooMany(MAX_PART)
        return tuple([self._reading(index) for index in range(first, last)])

    def _are_values(self, value):
        """Whether something is a tuple of values, at most as many as there are columns."""
        if not isinstance(value, tuple) or len(value) > len(self._order):
            return False
        return all([is_count(number) for number in value])

    def below(self, values):
        """How many readings have a line that is less than a tuple."""
        return self.with_head(values)[0]

    def with_head(self, values):
        """The pair of how many readings have a line that is less than a tuple, and of how many have this head."""
        if not self._are_values(values):
            raise InvalidOperation("no tuple of values, or too many of them")
        return self._readings.below(values)

    def _heads(self, length):
        """The heads of a length."""
        if not is_index(len(self._order) + 1, length):
            raise InvalidNumber(length)
        if length not in self._ladders:
            self._ladders[length] = Ladder(self._layers, length)
        return self._ladders[length]

    def count_heads(self, length):
        """How many different heads of a length there are."""
        return self._heads(length).height

    def head_at(self, length, index):
        """The head with an index among those of its length, ascending."""
        heads = self._heads(length)
        if not is_index(heads.height, index):
            raise InvalidNumber(index)
        return heads.at(index)

    def head_index(self, values):
        """The index of a head among those of its length."""
        if not self._are_values(values):
            raise InvalidOperation("no head")
        number, many = self._heads(len(values)).below(values)
        if not many:
            raise InvalidOperation("no head")
        return number

    def __contains__(self, value):
        return is_reading(self._question, self._store, value)

    def __eq__(self, other):
        if not isinstance(other, Ranked):
            return False
        return self._question == other._question and self._store == other._store and self._order == other._order

    def __str__(self):
        return f"{self._total} readings by {' '.join(self._order)}"
