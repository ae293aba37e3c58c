"""Questions and stores that count alike, and what parts those that do not."""

from math import factorial

from joinhouse.base.choices import all_chosen, all_parted
from joinhouse.base.questions import MAX_CLAUSES, MAX_COLUMNS, Question, are_alike, check_comparable
from joinhouse.base.readings import MAX_LISTED, count_of, count_readings, rows_for
from joinhouse.base.search import Search, count_found
from joinhouse.base.stores import Store, check_stores, fits, frozen_answer
from joinhouse.base.words import are_different, is_ascending, is_count, is_dict_from, is_pair
from joinhouse.count.renamings import store_renaming
from joinhouse.errors import InvalidOperation, TooMany
from joinhouse.fold.maps import clause_rows, count_maps, each_map, frozen_part

MAX_VALUES = 6
MAX_FEW = 8

_LETTERS = "abcdefgh"


def same_counts(one, other):
    """Whether two questions have the same counts in all stores that fit both."""
    check_comparable(one, other)
    return are_alike(one, other)


def _have_unlike_counts(one, other, rows, answer):
    """Whether an answer has unlike counts for two questions in tables of rows."""
    counted = [count_found(question, rows, dict(zip(question.asked, answer))) for question in (one, other)]
    return counted[0] != counted[1]


def _are_few(questions, rows):
    """Whether each of some questions has few readings enough in tables of rows for a judge to list them."""
    return max([count_found(question, rows, {}) for question in questions]) <= MAX_LISTED


def parting_count(one, other):
    """Any store that fits both with a tuple that has unlike counts there, None if there is none."""
    check_comparable(one, other)
    if are_alike(one, other):
        return None
    beyond = None
    parts = [(question, clauses) for many in range(1, MAX_CLAUSES + 1) for question in (one, other)
             for clauses in all_chosen(question.clauses, many)]
    for question, clauses in parts:
        rows = clause_rows(clauses)
        if _have_unlike_counts(one, other, rows, question.asked):
            found = frozen_part(question, clauses, {**one.tables, **other.tables}), frozen_answer(question)
            if _are_few((one, other), rows):
                return found
            beyond = found if beyond is None else beyond
    return beyond


def is_parting_count(one, other, value):
    """Whether the value is a store that fits both with a tuple that has unlike counts there."""
    check_comparable(one, other)
    if not is_pair(value) or not isinstance(value[0], Store):
        return False
    store, answer = value
    if not isinstance(answer, tuple) or not fits(store, one) or not fits(store, other):
        return False
    return count_of(one, store, answer) != count_of(other, store, answer)


def _is_onto(one, other, names):
    """Whether each clause of a question comes from some clause of another one by a map."""
    led = [(table, tuple([names[column] for column in columns])) for table, columns in one.clauses]
    return len(set(led)) == len(other)


def count_onto(one, other):
    """The number of the maps by which each clause of the other question comes from some clause of the first one."""
    # Refuses too many maps before any of them is listed.
    count_maps(one, other)
    return sum([1 for names in each_map(one, other) if _is_onto(one, other, names)])


def are_alike_stores(one, other):
    """Whether two stores have the same tables, and one becomes the other by a renaming of its values."""
    return store_alikeness(one, other) is not None


def store_alikeness(one, other):
    """Any dict from the values of one store by which it becomes the other, None if there is none."""
    check_stores(one, other)
    return store_renaming(one, other) if one.tables == other.tables else None


def is_store_alikeness(one, other, value):
    """Whether the value is a dict from just the values of one store by which it becomes the other."""
    check_stores(one, other)
    if not is_dict_from(one.domain, value):
        return False
    given = list(value.values())
    if not all([is_count(number) for number in given]) or not are_different(given):
        return False
    return one.renamed(value) == other


def question_of(store):
    """The question whose clauses are the rows of a store, with letters in the place of values."""
    check_stores(store)
    if not 1 <= len(store) <= MAX_CLAUSES or len(store.domain) > MAX_COLUMNS:
        raise InvalidOperation("no rows, or too many rows or values for a question")
    names = dict(zip(store.domain, _LETTERS))
    return Question(tuple([(table, tuple([names[number] for number in row])) for table, row in store]), ())


def _check_same_tables(one, other):
    """Refuses what are no stores with the same tables."""
    check_stores(one, other)
    if one.tables != other.tables:
        raise InvalidOperation("the stores have not the same tables")


def _folded_questions(stores):
    """The questions of all foldings of some stores, those of fewer values first."""
    folded = []
    for at, store in enumerate(stores):
        if len(store):
            folded.extend([(max(blocks), at, blocks) for blocks in all_parted(len(store.domain))])
    return [question_of(stores[at].folded(dict(zip(stores[at].domain, blocks)))) for _, at, blocks in sorted(folded)]


def _numbers_in(question, stores):
    """The numbers of readings of a question in some stores."""
    return [count_found(question, rows_for(question, store), {}) for store in stores]


def parting_question(one, other):
    """Any question without asked columns with unlike numbers of readings in two stores, None if they are alike."""
    _check_same_tables(one, other)
    if max(len(one.domain), len(other.domain)) > MAX_VALUES:
        raise TooMany(MAX_VALUES)
    if max(len(one), len(other)) > MAX_FEW:
        raise TooMany(MAX_FEW)
    if are_alike_stores(one, other):
        return None
    beyond = None
    for question in _folded_questions((one, other)):
        numbers = _numbers_in(question, (one, other))
        if numbers[0] != numbers[1]:
            if max(numbers) <= MAX_LISTED:
                return question
            beyond = question if beyond is None else beyond
    return beyond


def is_parting_question(one, other, value):
    """Whether the value is a question without asked columns with unlike numbers of readings in two stores."""
    _check_same_tables(one, other)
    if not isinstance(value, Question) or value.asked or not fits(one, value) or not fits(other, value):
        return False
    return count_readings(value, one) != count_readings(value, other)


def _shape(row):
    """Where a row has equal values."""
    return tuple([row.index(number) for number in row])


def _once(row):
    """The tuple of the values of a row, each at its first place only."""
    return tuple([number for at, number in enumerate(row) if row.index(number) == at])


def _clauses_into(one, other):
    """For the rows of a store, dicts from the tuples of their values to the tuples that can take their place.

    The values are told by their numbers, ascending, and the tuples are those of rows of the other store that have
    equal values just where the row has them.
    """
    shaped = {}
    for table, row in other:
        alike = shaped.setdefault((table, _shape(row)), [])
        alike.append(_once(row))
    numbers = {number: at for at, number in enumerate(one.domain)}
    clauses = {}
    for table, row in one:
        columns = [numbers[number] for number in _once(row)]
        places = [columns.index(column) for column in sorted(columns)]
        led = [tuple([told[place] for place in places]) for told in shaped.get((table, _shape(row)), [])]
        key = tuple(sorted(columns))
        if key in clauses:
            led = [told for told in led if told in clauses[key]]
        clauses[key] = {told: True for told in led}
    return clauses


def _are_twins(store, value, other):
    """Whether two values stand in a row together, and the store stays as it is if they are exchanged."""
    names = {value: other, other: value}
    if not any([value in row and other in row for _, row in store]):
        return False
    return all([(table, tuple([names.get(number, number) for number in row])) in store for table, row in store])


def _twins_of(store):
    """The lists of the numbers of values of which each two are twins."""
    found = []
    for at, value in enumerate(store.domain):
        near = [some for some in found if _are_twins(store, store.domain[some[0]], value)]
        if near:
            near[0].append(at)
        else:
            found.append([at])
    return [some for some in found if len(some) > 1]


def _are_in_order(columns, told, twins):
    """Whether values for some columns ascend from each of some twins to the next one."""
    return is_ascending([number for column, number in zip(columns, told) if column in twins])


def _number_within(blocks, clauses):
    """The number of dicts that are equal within blocks of values, and take each clause to one of its tuples."""
    led = []
    for columns in clauses:
        names = tuple([blocks[column] for column in columns])
        # No tuple has equal values.
        if not are_different(names):
            return 0
        led.append((names, list(clauses[columns])))
    return Search(max(blocks, default=-1) + 1, led).how_many()


def _weight(blocks):
    """With which factor the dicts that are equal within blocks count, so that just the one to one ones are left."""
    weight = 1
    for block in range(max(blocks, default=-1) + 1):
        for many in range(1, blocks.count(block)):
            weight *= -many
    return weight


def count_injections(one, other):
    """The number of one to one dicts between the values of two stores that make rows of rows."""
    _check_same_tables(one, other)
    if len(one.domain) > MAX_VALUES:
        raise TooMany(MAX_VALUES)
    clauses = _clauses_into(one, other)
    # Twins can be exchanged in each dict, so that those in one order tell of all: there can be far fewer of them.
    times = 1
    for twins in _twins_of(one):
        times *= factorial(len(twins))
        clauses = {columns: [told for told in clauses[columns] if _are_in_order(columns, told, twins)]
                   for columns in clauses}
    return times * sum([_weight(blocks) * _number_within(blocks, clauses) for blocks in all_parted(len(one.domain))])
