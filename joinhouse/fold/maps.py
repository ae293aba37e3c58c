"""Maps from question to question, and whether one question has all answers of another one in all stores."""

from joinhouse.base.questions import Question, are_comparable, check_comparable
from joinhouse.base.readings import MAX_LISTED, has_answer
from joinhouse.base.search import count_found, each_found, is_found
from joinhouse.base.stores import MAX_TABLES, Store, fits, frozen, frozen_answer
from joinhouse.base.words import are_names, is_dict_from, is_index, is_pair
from joinhouse.errors import InvalidOperation, InvalidQuestion, TooMany

MAX_UNITED = 8


def clause_rows(clauses):
    """A dict from the tables of some clauses to the tuples of columns that stand there, as if they were rows."""
    rows = {table: [] for table, _ in clauses}
    for table, columns in clauses:
        rows[table].append(columns)
    return rows


def frozen_part(question, clauses, tables):
    """The store with some tables, and just those rows of the frozen store of a question that come from some clauses."""
    numbers = {column: number for number, column in enumerate(question.columns)}
    rows = clause_rows(clauses)
    return Store(tables, {
        table: tuple([tuple([numbers[column] for column in columns]) for columns in rows[table]])
        for table in rows
    })


def _asked_to(one, other):
    """Where a map takes the asked columns of one question."""
    return dict(zip(one.asked, other.asked))


def _is_led(one, other, value):
    """Whether the value is a map from one question to a comparable one."""
    if not is_dict_from(one.columns, value) or not are_names(tuple(value.values())):
        return False
    if tuple([value[column] for column in one.asked]) != other.asked:
        return False
    return all([(table, tuple([value[column] for column in columns])) in other for table, columns in one.clauses])


def is_map(one, other, value):
    """Whether the value is a map from one question to the other."""
    check_comparable(one, other)
    return _is_led(one, other, value)


def find_map(one, other):
    """Any map from one question to the other, None if there is none."""
    for names in each_map(one, other):
        return names
    return None


def each_map(one, other):
    """A generator of all maps from one question to the other, ascending by the tuples of their values."""
    check_comparable(one, other)
    rows = clause_rows(other.clauses)
    given = _asked_to(one, other)
    for names in each_found(one, rows, given):
        yield dict(zip(one.columns, names))


def count_maps(one, other):
    """The number of the maps, if there are not too many."""
    check_comparable(one, other)
    many = count_found(one, clause_rows(other.clauses), _asked_to(one, other))
    if many > MAX_LISTED:
        raise TooMany(MAX_LISTED)
    return many


def composed_maps(first, second):
    """The dict that takes each key of the first dict to what the second one makes of its value."""
    if not isinstance(first, dict) or not isinstance(second, dict):
        raise InvalidOperation("no dicts")
    if not are_names(tuple(first)) or not are_names(tuple(second)) or not are_names(tuple(first.values())):
        raise InvalidOperation("not all keys and values are names")
    if not all([name in second for name in first.values()]):
        raise InvalidOperation("a value of the first dict is no key of the second one")
    return {column: second[first[column]] for column in sorted(first)}


def has_all_answers(one, other):
    """Whether one question has each answer of the other one in all stores that fit both."""
    check_comparable(one, other)
    return is_found(one, clause_rows(other.clauses), _asked_to(one, other))


def same_answers(one, other):
    """Whether both questions have the same answers in all stores that fit both."""
    return has_all_answers(one, other) and has_all_answers(other, one)


def _frozen_for(question, tables):
    """The frozen store of a question, with empty tables for others."""
    return frozen(question) + Store(tables, {})


def lost_answer(one, other):
    """Any store with an answer of the other question that is none of the first one there, None if there is none."""
    if has_all_answers(one, other):
        return None
    return _frozen_for(other, one.tables), frozen_answer(other)


def _is_lost_in(ones, other, store, answer):
    """Whether something is an answer of one question in a store that fits all, and none of some others."""
    if not has_answer(other, store, answer):
        return False
    return not any([has_answer(one, store, answer) for one in ones])


def is_lost_answer(one, other, value):
    """Whether the value is a store that fits both, with an answer of the other question that is none of the first."""
    check_comparable(one, other)
    if not is_pair(value) or not isinstance(value[0], Store):
        return False
    store, answer = value
    return fits(store, one) and fits(store, other) and _is_lost_in((one,), other, store, answer)


def _is_union(value):
    """Whether the value is a tuple of one to eight questions."""
    if not isinstance(value, tuple) or not 1 <= len(value) <= MAX_UNITED:
        return False
    return all([isinstance(question, Question) for question in value])


def _check_unions(*unions):
    """Refuses what are no tuples of questions, no comparable ones, or have too many tables together."""
    questions = []
    for union in unions:
        if not _is_union(union):
            raise InvalidQuestion("no tuple of one to eight questions")
        questions.extend(union)
    if not are_comparable(*questions):
        raise InvalidOperation("two of the questions are not comparable")
    if len(_all_tables(questions)) > MAX_TABLES:
        raise TooMany(MAX_TABLES)


def _all_tables(questions):
    """A dict from the tables of some questions to their widths."""
    widths = {}
    for question in questions:
        widths.update(question.tables)
    return widths


def _first_map(ones, other):
    """The pair of the index of the first of some questions from which a map leads to another one, and of a map."""
    for at, one in enumerate(ones):
        names = find_map(one, other)
        if names is not None:
            return at, names
    return None


def union_maps(ones, others):
    """Any tuple of pairs of an index and of a map, one for each of the others, None if there is none."""
    _check_unions(ones, others)
    pairs = []
    for other in others:
        found = _first_map(ones, other)
        if found is None:
            return None
        pairs.append(found)
    return tuple(pairs)


def _is_map_from(ones, other, value):
    """Whether the value is a pair of the index of one of some questions and of a map from it to another one."""
    if not is_pair(value) or not is_index(len(ones), value[0]):
        return False
    return _is_led(ones[value[0]], other, value[1])


def is_union_maps(ones, others, value):
    """Whether the value is a tuple of pairs of an index and of a map, one for each of the others."""
    _check_unions(ones, others)
    if not isinstance(value, tuple) or len(value) != len(others):
        return False
    return all([_is_map_from(ones, other, pair) for other, pair in zip(others, value)])


def lost_by_union(ones, others):
    """Any triple of an index, a store, and an answer of this one of the others that is none of `ones` there."""
    _check_unions(ones, others)
    for at, other in enumerate(others):
        if _first_map(ones, other) is None:
            return at, _frozen_for(other, _all_tables([*ones, *others])), frozen_answer(other)
    return None


def is_lost_by_union(ones, others, value):
    """Whether the value is a triple of an index, a store that fits all questions, and a lost answer."""
    _check_unions(ones, others)
    if not isinstance(value, tuple) or len(value) != 3 or not is_index(len(others), value[0]):
        return False
    at, store, answer = value
    if not isinstance(store, Store) or not all([fits(store, question) for question in (*ones, *others)]):
        return False
    return _is_lost_in(ones, others[at], store, answer)


def _stays(ones, at):
    """Whether no other question has all answers of one of them; of questions with the same answers the first stays."""
    for other, one in enumerate(ones):
        if other != at and has_all_answers(one, ones[at]) and (other < at or not has_all_answers(ones[at], one)):
            return False
    return True


def least_union(ones):
    """The ascending tuple of the indices of those that have together the answers of all, none of them spare."""
    _check_unions(ones)
    return tuple([at for at in range(len(ones)) if _stays(ones, at)])
