"""The number of readings of a question in a store, worked in seven ways."""

from joinhouse.base.questions import check_questions
from joinhouse.base.readings import MAX_LISTED, count_readings, each_reading, rows_for
from joinhouse.base.search import agreeing_rows, count_found, found_until
from joinhouse.base.stores import Store, check_fit, check_stores
from joinhouse.change.forests import Tally, forest_of
from joinhouse.count.whence import whences
from joinhouse.errors import InvalidOperation, UnknownName
from joinhouse.order.layers import Ranked, layered_order
from joinhouse.shape.agreeing import values_in
from joinhouse.shape.links import links_from
from joinhouse.shape.trees import is_join_tree, join_tree
from joinhouse.width.bags import bag_tree, count_by_bags

WAYS = ("readings", "tree", "layers", "bags", "whence", "forest", "maps")

_LISTED = ("readings", "whence", "maps")


class Branches:
    """The clauses of a question along a join tree, with their rows that agree with themselves.

    What a clause brings to a neighbour is a dict from the values of their common columns to numbers of readings of
    all clauses on its side.
    """

    def __init__(self, question, store, links):
        self._columns = [columns for _, columns in question.clauses]
        self._rows = [agreeing_rows(columns, store.rows(table), {}) for table, columns in question.clauses]
        self._near = [
            [one + other - at for one, other in links if at in (one, other)] for at in range(len(question))
        ]
        self._brought = {}
        self._pairs = links_from(0, links)
        for one, other in reversed(self._pairs):
            self._brought[(one, other)] = self._side_sums(one, other)

    def _common_places(self, one, other):
        """The list of the places of a clause where its common columns with another one stand first."""
        common = [name for name in sorted(set(self._columns[one])) if name in self._columns[other]]
        return [self._columns[one].index(name) for name in common]

    def _brought_to(self, at, beside):
        """Pairs of places of a clause, and of what a neighbour brings for the values there; one can be left out."""
        near = [other for other in self._near[at] if other != beside]
        return [(self._common_places(at, other), self._brought[(other, at)]) for other in near]

    def _row_numbers(self, at, beside):
        """For each row of a clause the product of what its neighbours bring; one of them can be left out."""
        brought = self._brought_to(at, beside)
        numbers = []
        for row in self._rows[at]:
            many = 1
            for places, sums in brought:
                many *= sums.get(values_in(row, places), 0)
            numbers.append(many)
        return numbers

    def _side_sums(self, one, other):
        """What a clause brings to a neighbour."""
        places = self._common_places(one, other)
        sums = {}
        for row, many in zip(self._rows[one], self._row_numbers(one, other)):
            if many:
                values = values_in(row, places)
                sums[values] = sums.get(values, 0) + many
        return sums

    def whole(self):
        """The number of readings, by what the other clauses bring to the first one."""
        return sum(self._row_numbers(0, 0))

    def all_numbers(self):
        """For each clause a dict from its rows to the numbers of the readings that read them."""
        for one, other in self._pairs:
            self._brought[(other, one)] = self._side_sums(other, one)
        return [dict(zip(rows, self._row_numbers(at, at))) for at, rows in enumerate(self._rows)]


def _by_readings(question, store):
    """The number of readings, by each of them."""
    return sum([1 for _ in each_reading(question, store)])


def _by_tree(question, store):
    """The number of readings, along a join tree."""
    return Branches(question, store, join_tree(question)).whole()


def _by_layers(question, store):
    """The number of readings, by a layered order."""
    return Ranked(question, store, layered_order(question)).total


def _by_bags(question, store):
    """The number of readings, by a tree of bags of the least width."""
    return count_by_bags(question, store, bag_tree(question))


def _by_whence(question, store):
    """The number of readings, by the polynomials of all answers with every row once."""
    return sum([whence.evaluated({}) for whence in whences(question, store).values()])


def _by_forest(question, store):
    """The number of readings, by numbers that are kept while all rows are put one behind the other."""
    tally = Tally(question, forest_of(question), Store(store.tables, {}))
    for table, row in store:
        tally.put(table, row)
    return tally.total


def _by_maps(question, store):
    """The number of readings, as that of the dicts from columns to values that lead each clause to a row."""
    return count_found(question.asking(), rows_for(question, store), {})


_WORKED = {
    "readings": _by_readings,
    "tree": _by_tree,
    "layers": _by_layers,
    "bags": _by_bags,
    "whence": _by_whence,
    "forest": _by_forest,
    "maps": _by_maps,
}


def _are_few(question, store):
    """Whether there are few readings enough to list them."""
    return len(found_until(question, rows_for(question, store), MAX_LISTED + 1)) <= MAX_LISTED


def _applying(question, store, ways):
    """The list of those of some ways that apply."""
    # Readings are looked for only where it matters how many there are.
    few = any([way in _LISTED for way in ways]) and _are_few(question, store)
    by_shape = {
        "tree": join_tree(question) is not None,
        "layers": layered_order(question) is not None,
        "bags": True,
        "forest": forest_of(question) is not None,
    }
    return [way for way in ways if by_shape.get(way, few)]


def _check_way(question, store, way):
    """Refuses what is no question, no store, none of the ways, and a store that does not fit the question."""
    check_questions(question)
    check_stores(store)
    if way not in WAYS:
        raise UnknownName(way)
    check_fit(question, store)


def applies(question, store, way):
    """Whether a way applies."""
    _check_way(question, store, way)
    return way in _applying(question, store, (way,))


def count_by(question, store, way):
    """The number of readings, by a way that applies."""
    if not applies(question, store, way):
        raise InvalidOperation("the way does not apply")
    work = _WORKED[way]
    return work(question, store)


def counts_by_all(question, store):
    """A dict from the ways that apply, in their order, to the numbers of readings."""
    check_fit(question, store)
    found = {}
    for way in _applying(question, store, WAYS):
        work = _WORKED[way]
        found[way] = work(question, store)
    return found


def count_all(question, store):
    """The number of readings in any way that applies; without a join tree there must not be too many."""
    check_fit(question, store)
    links = join_tree(question)
    return count_readings(question, store) if links is None else Branches(question, store, links).whole()


def tree_counts(question, store, links):
    """For each clause the tuple of the numbers of the readings that read each row of its table."""
    check_fit(question, store)
    if not is_join_tree(question, links):
        raise InvalidOperation("no join tree of the question")
    numbers = Branches(question, store, links).all_numbers()
    return tuple([
        tuple([some.get(row, 0) for row in store.rows(table)]) for some, (table, _) in zip(numbers, question.clauses)
    ])
