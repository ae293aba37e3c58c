"""The least questions with the same answers as a question."""

from joinhouse.base.choices import all_chosen
from joinhouse.base.questions import Question, check_questions, each_alikeness
from joinhouse.base.readings import MAX_LISTED
from joinhouse.base.search import each_found
from joinhouse.errors import InvalidOperation, TooMany
from joinhouse.fold.maps import clause_rows, has_all_answers, is_map


def _kept(columns):
    """The dict that leaves some columns as they are."""
    return {column: column for column in columns}


def _map_into(question, clauses, left):
    """Any map from a question to itself into some of its clauses that leaves some columns; None if there is none."""
    rows = clause_rows(clauses)
    given = _kept([*question.asked, *left])
    for names in each_found(question, rows, given):
        return dict(zip(question.columns, names))
    return None


def _map_without(question, clause):
    """Any map from a question to itself that takes no clause to this one, None if there is none."""
    return _map_into(question, [other for other in question.clauses if other != clause], ())


def merging_map(question):
    """Any map from a question to itself that takes two columns to one, None if it is a core."""
    check_questions(question)
    # A map takes two columns to one exactly if some clause is left out by it.
    for clause in question.clauses:
        names = _map_without(question, clause)
        if names is not None:
            return names
    return None


def is_core(question):
    """Whether each map from a question to itself takes different columns to different ones."""
    return merging_map(question) is None


def core_of(question):
    """Any core of a question."""
    core = question
    names = merging_map(core)
    while names is not None:
        core = core.folded(names)
        names = merging_map(core)
    return core


def is_core_of(question, value):
    """Whether the value is a core of a question."""
    check_questions(question)
    if not isinstance(value, Question) or value.asked != question.asked:
        return False
    if not all([clause in question for clause in value.clauses]):
        return False
    return is_core(value) and has_all_answers(question, value)


def each_core(question):
    """A generator of all cores of a question, ascending by their clauses."""
    least = core_of(question)
    for clauses in all_chosen(question.clauses, len(least)):
        # A part with no more clauses than a core is one itself as soon as a map leads to it.
        if _map_into(question, clauses, ()) is not None:
            yield Question(clauses, question.asked)


def is_folding(question, value):
    """Whether the value is a map from a question to itself that leaves each column that is a value of it."""
    return is_map(question, question, value) and all([value[column] == column for column in value.values()])


def folding_onto(question, core):
    """Any folding whose values are just the columns of a core."""
    if not is_core_of(question, core):
        raise InvalidOperation("no core of the question")
    return _map_into(question, core.clauses, core.columns)


def spare_clauses(question):
    """The ascending tuple of the clauses without each of which alone the answers are the same."""
    check_questions(question)
    return tuple([clause for clause in question.clauses if _map_without(question, clause) is not None])


def count_turns(question):
    """The number of maps from a question to itself that take different columns to different ones."""
    check_questions(question)
    many = 0
    for _ in each_alikeness(question, question):
        many += 1
        if many > MAX_LISTED:
            raise TooMany(MAX_LISTED)
    return many
