"""Orders of the columns of a question."""

from joinhouse.base.words import are_names
from joinhouse.errors import InvalidOperation


def is_order(question, value):
    """Whether the value is a tuple of all columns of a question, each once."""
    return are_names(value) and sorted(value) == list(question.columns)


def check_order(question, order):
    """Refuses what is no order of the columns of a question."""
    if not is_order(question, order):
        raise InvalidOperation("no order of the columns of the question")
