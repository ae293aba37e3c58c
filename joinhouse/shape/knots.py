"""Knots of questions, which have no join tree then, and the stores that are stuck by them."""

from joinhouse.base.plans import columns_in, mask_of
from joinhouse.base.questions import check_plain, check_questions
from joinhouse.base.readings import is_answered
from joinhouse.base.stores import Store, check_fit, fits
from joinhouse.base.words import are_different, are_names, is_ascending, is_pair
from joinhouse.errors import InvalidKnot
from joinhouse.shape.agreeing import agreeing_within, left_beside
from joinhouse.shape.masks import all_columns, clause_masks, named, within

_LEAST_RING = 4
_LEAST_CROWN = 3


def _greatest_traces(masks, some):
    """The ascending list of the greatest traces of a set."""
    traces = sorted(set([mask & some for mask in masks]))
    return [
        trace for trace in traces
        if not any([trace != other and within(trace, other) for other in traces])
    ]


def _all_but_one(some):
    """The ascending list of a set without each one of its columns."""
    return sorted([some ^ 1 << column for column in columns_in(some)])


def _is_crown(masks, some):
    """Whether a set is the set of a crown."""
    return len(columns_in(some)) >= _LEAST_CROWN and _greatest_traces(masks, some) == _all_but_one(some)


def _links_of(ring):
    """The ascending list of the pairs of neighbours of a ring of columns."""
    return sorted([1 << one | 1 << other for one, other in zip(ring, [*ring[1:], ring[0]])])


def _is_ring(masks, ring):
    """Whether a list of different columns is a ring, wherever it begins."""
    return len(ring) >= _LEAST_RING and _greatest_traces(masks, mask_of(ring)) == _links_of(ring)


def _walked(traces, first):
    """The columns on the walk from the first one along pairs of columns, until it can come to no new one."""
    walk = [first]
    going = True
    while going:
        going = False
        for trace in traces:
            ends = columns_in(trace)
            if walk[-1] in ends and not all([column in walk for column in ends]):
                walk.append(ends[0] if ends[1] == walk[-1] else ends[1])
                going = True
                break
    return walk


def _ring_of(masks, some):
    """The ring of the columns of a set, None if there is none."""
    traces = _greatest_traces(masks, some)
    columns = columns_in(some)
    if len(columns) < _LEAST_RING or not all([len(columns_in(trace)) == 2 for trace in traces]):
        return None
    # The traces ascend by their greatest columns, so that the walk begins towards the lesser neighbour.
    walk = _walked(traces, columns[0])
    return walk if len(walk) == len(columns) and _links_of(walk) == traces else None


def knot_of(question):
    """Any knot of a question, None if there is none."""
    check_questions(question)
    masks = clause_masks(question)
    for some in range(all_columns(question) + 1):
        if _is_crown(masks, some):
            return "crown", named(question, some)
        ring = _ring_of(masks, some)
        if ring is not None:
            return "ring", tuple([question.columns[column] for column in ring])
    return None


def _is_knot(question, value):
    """Whether the value is a knot of a question."""
    if not is_pair(value) or not are_names(value[1]) or not are_different(value[1]):
        return False
    word, columns = value
    if not all([column in question.columns for column in columns]):
        return False
    masks = clause_masks(question)
    numbers = [question.columns.index(column) for column in columns]
    if word == "crown":
        return is_ascending(columns) and _is_crown(masks, mask_of(numbers))
    if word != "ring" or len(columns) < _LEAST_RING:
        return False
    return columns[0] == min(columns) and columns[1] < columns[-1] and _is_ring(masks, numbers)


def is_knot(question, value):
    """Whether the value is a knot of a question."""
    check_questions(question)
    return _is_knot(question, value)


def _ring_choices(ring, some):
    """The dicts of the values that columns of a ring, one or two neighbours or none, have in the rows of a clause."""
    if not some:
        return [{}]
    if len(some) == 1:
        return [{some[0]: value} for value in (0, 1)]
    one, other = some
    turned = 1 if (one, other) == (ring[0], ring[-1]) else 0
    return [{one: value, other: value ^ turned} for value in (0, 1)]


def _crown_choices(crown, some):
    """The dicts of the values that columns of a crown, not all of them, have in the rows of a clause."""
    ones = [{column: 1} for column in some]
    return ones if len(some) == len(crown) - 1 else [{}, *ones]


def _stuck_rows(columns, knot):
    """The rows of a clause in the store that is stuck by a knot."""
    some = [column for column in knot[1] if column in columns]
    choices = _ring_choices(knot[1], some) if knot[0] == "ring" else _crown_choices(knot[1], some)
    return tuple([tuple([values.get(column, 0) for column in columns]) for values in choices])


def stuck_by(question, knot):
    """The stuck store of a plain question from a knot."""
    check_plain(question)
    if not _is_knot(question, knot):
        raise InvalidKnot("no knot of the question")
    return Store(question.tables, {table: _stuck_rows(columns, knot) for table, columns in question.clauses})


def stuck_store(question):
    """Any stuck store of a plain question, None if there is none."""
    check_plain(question)
    knot = knot_of(question)
    return None if knot is None else stuck_by(question, knot)


def is_stuck(question, value):
    """Whether the value is a stuck store of a plain question."""
    check_plain(question)
    if not isinstance(value, Store) or not fits(value, question):
        return False
    if not all([value.rows(table) for table in question.tables]):
        return False
    return are_agreeing(question, value) and not is_answered(question, value)


def are_agreeing(question, store):
    """Whether rows agree with themselves, and with some row of each other clause."""
    check_fit(question, store)
    rows = agreeing_within(question, store)
    if not all([len(left) == len(store.rows(clause[0])) for left, clause in zip(rows, question.clauses)]):
        return False
    every = list(range(len(rows)))
    return all([
        len(left_beside(question, rows, one, other)) == len(rows[one])
        for one in every for other in every if one != other
    ])
