"""Bags of columns, trees of them, and the orders of columns that they come from."""

from joinhouse.base.orders import check_order, is_order
from joinhouse.base.plans import columns_in
from joinhouse.base.questions import check_questions
from joinhouse.base.search import Search, agreeing_rows
from joinhouse.base.stores import check_fit
from joinhouse.base.words import are_names, is_ascending, is_pair
from joinhouse.errors import InvalidOperation, TooMany
from joinhouse.shape.agreeing import parts_of_rows, values_in
from joinhouse.shape.links import are_tree_links, hang_together, links_from
from joinhouse.shape.masks import all_columns, grown, named, near_masks

MAX_BAGS = 40
MAX_BAG_ROWS = 20000


def is_bag(question, value):
    """Whether the value is an ascending tuple of at least one column of a question."""
    if not are_names(value) or not value or not is_ascending(value):
        return False
    return all([column in question.columns for column in value])


def _has_clause(bag, columns):
    """Whether a bag has all columns of a clause."""
    return all([column in bag for column in columns])


def is_bag_tree(question, value):
    """Whether the value is a bag tree of a question, of whatever width."""
    check_questions(question)
    if not is_pair(value) or not isinstance(value[0], tuple) or not 1 <= len(value[0]) <= MAX_BAGS:
        return False
    bags, links = value
    if not all([is_bag(question, bag) for bag in bags]) or not are_tree_links(len(bags), links):
        return False
    if not all([any([_has_clause(bag, columns) for bag in bags]) for _, columns in question.clauses]):
        return False
    return all([
        hang_together([at for at, bag in enumerate(bags) if column in bag], links) for column in question.columns
    ])


def _check_bag_tree(question, tree):
    """Refuses what is no bag tree of a question."""
    if not is_bag_tree(question, tree):
        raise InvalidOperation("no bag tree of the question")


def width_by(question, tree):
    """The width of a bag tree."""
    _check_bag_tree(question, tree)
    return max([len(bag) for bag in tree[0]]) - 1


def _taken_away(question, order):
    """The list of the sets of each column in an order and of the neighbours that it has when it is taken away."""
    near = near_masks(question)
    left = all_columns(question)
    bags = []
    for name in order:
        column = question.columns.index(name)
        bag = near[column] & left | 1 << column
        for other in columns_in(bag):
            near[other] |= bag & ~(1 << other)
        left ^= 1 << column
        bags.append(bag)
    return bags


def order_width(question, order):
    """The width of an order."""
    check_questions(question)
    check_order(question, order)
    return max([len(columns_in(bag)) for bag in _taken_away(question, order)]) - 1


def tree_by_order(question, order):
    """Any bag tree of at most the width of an order, with each column beside those that it has when taken away."""
    check_questions(question)
    check_order(question, order)
    bags = [named(question, bag) for bag in _taken_away(question, order)]
    links = []
    for at, bag in enumerate(bags[:-1]):
        # The neighbours stay together until the next one of them is taken away.
        behind = [other for other in range(at + 1, len(bags)) if order[other] in bag]
        links.append((at, behind[0] if behind else at + 1))
    return tuple(bags), tuple(links)


def _best_widths(question):
    """For each set of columns the pair of the least width at which it can be taken away first, and of its last column.

    The width is not that of the columns left.
    """
    near = near_masks(question)
    every = all_columns(question)
    best = [(-1, 0)]
    for some in range(1, every + 1):
        # What a column is beside when it is taken away last: all that one comes to from it through the others.
        tried = []
        for column in columns_in(some):
            inside = grown(near, 1 << column, some)
            beside = 0
            for other in columns_in(inside):
                beside |= near[other]
            width = len(columns_in(beside & ~some))
            tried.append((max(width, best[some ^ 1 << column][0]), column))
        best.append(min(tried))
    return best


def least_order(question):
    """Any order of least width."""
    check_questions(question)
    best = _best_widths(question)
    some = all_columns(question)
    order = []
    while some:
        column = best[some][1]
        order.append(question.columns[column])
        some ^= 1 << column
    return tuple(reversed(order))


def width_of(question):
    """The width of a question."""
    check_questions(question)
    return _best_widths(question)[-1][0]


def is_least_order(question, value):
    """Whether the value is an order of least width."""
    check_questions(question)
    return is_order(question, value) and order_width(question, value) == width_of(question)


def bag_tree(question):
    """Any bag tree of least width."""
    return tree_by_order(question, least_order(question))


def _rows_of_bag(question, store, bag):
    """The ascending tuple of the bag rows of a bag."""
    numbers = {column: number for number, column in enumerate(bag)}
    clauses = []
    for table, columns in question.clauses:
        common = [column for column in bag if column in columns]
        led = parts_of_rows(columns, agreeing_rows(columns, store.rows(table), {}), common)
        if not led:
            return ()
        if common:
            clauses.append((tuple([numbers[column] for column in common]), list(led)))
    search = Search(len(bag), clauses)
    found = []
    for values in search.each_anyhow():
        if len(found) == MAX_BAG_ROWS:
            raise TooMany(MAX_BAG_ROWS)
        found.append(values)
    return tuple(sorted(found))


def bag_rows(question, store, bag):
    """The bag rows of a bag, ascending."""
    check_fit(question, store)
    if not is_bag(question, bag):
        raise InvalidOperation("no bag of the question")
    return _rows_of_bag(question, store, bag)


def _sums_for(bag, common, rows, lower):
    """A dict from the values of some columns of a bag to the sums of the ways to go on from its rows with them.

    `lower` are pairs of the columns that a bag behind has in common, and of such a dict of it.
    """
    places = [bag.index(column) for column in common]
    behind = [([bag.index(column) for column in columns], sums) for columns, sums in lower]
    found = {}
    for row in rows:
        ways = 1
        for spots, sums in behind:
            ways *= sums.get(values_in(row, spots), 0)
        if ways:
            values = values_in(row, places)
            found[values] = found.get(values, 0) + ways
    return found


def count_by_bags(question, store, tree):
    """The number of readings, by a bag tree."""
    check_fit(question, store)
    _check_bag_tree(question, tree)
    bags, links = tree
    rows = {}
    for bag in bags:
        if bag not in rows:
            rows[bag] = _rows_of_bag(question, store, bag)
    lower = [[] for _ in bags]
    for at, above in reversed(links_from(0, links)):
        common = [column for column in bags[at] if column in bags[above]]
        lower[above].append((common, _sums_for(bags[at], common, rows[bags[at]], lower[at])))
    return _sums_for(bags[0], [], rows[bags[0]], lower[0]).get((), 0)
