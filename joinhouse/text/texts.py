"""Texts of questions, stores, maps, links and knots."""

from joinhouse.base.questions import Question, check_questions
from joinhouse.base.stores import Store, check_stores
from joinhouse.base.words import (
    are_different,
    are_names,
    is_ascending,
    is_count,
    is_figures,
    is_name,
    is_pair,
    words_of,
)
from joinhouse.errors import InvalidKnot, InvalidMap, InvalidOperation, ParseError

MAX_KNOT = 8

_LEAST_RING = 4
_LEAST_CROWN = 3
_NOTHING = "-"


def _lines_in(text):
    """The lines of a text; refuses what is no string."""
    if not isinstance(text, str):
        raise ParseError(None)
    return text.split("\n")


def write_question(question):
    """The text of a question."""
    check_questions(question)
    return "\n".join(question.lines)


def read_question(text):
    """The question with a text."""
    lines = _lines_in(text)
    return Question.from_lines(*lines)


def write_store(store):
    """The text of a store."""
    check_stores(store)
    return "\n".join(store.lines)


def read_store(text):
    """The store with a text."""
    lines = _lines_in(text)
    return Store.from_lines(*lines)


def write_map(names):
    """The text of a dict of at least one name to names."""
    if not isinstance(names, dict) or not names or not are_names((*names, *list(names.values()))):
        raise InvalidMap("no dict of at least one name to names")
    return " ".join([f"{name}={names[name]}" for name in sorted(names)])


def _two_parts(word, sign):
    """The pair of what stands on both sides of a sign in a word, of two empty ones if it is not there just once."""
    parts = word.split(sign)
    return tuple(parts) if len(parts) == 2 else ("", "")


def read_map(text):
    """The dict with a text, its keys ascending."""
    pairs = [_two_parts(word, "=") for word in words_of(text)]
    if not all([are_names(pair) for pair in pairs]) or not are_different([name for name, _ in pairs]):
        raise ParseError(None)
    return dict(sorted(pairs))


def _is_link(value):
    """Whether the value is a pair of two different integers of at least 0."""
    return is_pair(value) and is_count(value[0]) and is_count(value[1]) and value[0] != value[1]


def write_links(links):
    """The text of a tuple of pairs of different integers of at least 0."""
    if not isinstance(links, tuple) or not all([_is_link(pair) for pair in links]):
        raise InvalidOperation("no tuple of pairs of different numbers")
    return " ".join([f"{one}-{other}" for one, other in links]) if links else _NOTHING


def read_links(text):
    """The tuple of pairs with a text."""
    words = words_of(text)
    if words == (_NOTHING,):
        return ()
    pairs = [_two_parts(word, "-") for word in words]
    if not all([is_figures(one) and is_figures(other) and one != other for one, other in pairs]):
        raise ParseError(None)
    return tuple([(int(one), int(other)) for one, other in pairs])


def _is_knot(value):
    """Whether the value has the form of a knot, whatever the question."""
    if not is_pair(value) or not are_names(value[1]) or len(value[1]) > MAX_KNOT:
        return False
    word, columns = value
    if word == "crown":
        return len(columns) >= _LEAST_CROWN and is_ascending(columns)
    if word != "ring" or len(columns) < _LEAST_RING or not are_different(columns):
        return False
    return columns[0] == min(columns) and columns[1] < columns[-1]


def write_knot(knot):
    """The text of a knot."""
    if not _is_knot(knot):
        raise InvalidKnot("no knot")
    return " ".join([knot[0], *knot[1]])


def read_knot(text):
    """The knot with a text."""
    word, *columns = words_of(text)
    knot = (word, tuple(columns))
    if not _is_knot(knot):
        raise ParseError(None)
    return knot
