"""What can be pledged of a question and a store."""

from joinhouse.base.words import MAX_WIDTH, is_count, is_name
from joinhouse.change.forests import forest_of
from joinhouse.fold.cores import is_core
from joinhouse.shape.trees import join_tree
from joinhouse.size.bounds import keeps_keys
from joinhouse.strike.lines import line_of
from joinhouse.width.bags import width_of

# How the rest of a pledge behind its word is made up.
_RESTS = {
    "plain": (),
    "tree": (),
    "core": (),
    "forest": (),
    "line": (),
    "width": ("number",),
    "answered": (),
    "least": ("number",),
    "most": ("number",),
    "key": ("name", "number", "number"),
}


def rest_of(word):
    """The tuple of `name` and `number` for what stands behind the word of a pledge, None if there is no such word."""
    return _RESTS.get(word)


def _is_of_form(value):
    """Whether the value is a tuple of a word and of names and numbers as they stand behind it."""
    if not isinstance(value, tuple) or not value or not isinstance(value[0], str):
        return False
    rest = rest_of(value[0])
    if rest is None or len(value) != len(rest) + 1:
        return False
    return all([is_name(part) if kind == "name" else is_count(part) for kind, part in zip(rest, value[1:])])


def is_pledge(value):
    """Whether the value is a pledge."""
    if not _is_of_form(value):
        return False
    if value[0] == "width":
        return value[1] < MAX_WIDTH
    if value[0] == "key":
        return value[2] != value[3] and value[2] < MAX_WIDTH and value[3] < MAX_WIDTH
    return True


def _holds_of_question(word, question):
    """Whether a question has what a word pledges of it."""
    if word == "plain":
        return question.is_plain
    if word == "core":
        return is_core(question)
    if word == "tree":
        return join_tree(question) is not None
    return (forest_of(question) if word == "forest" else line_of(question)) is not None


def _has_key(store, table, one, other):
    """Whether a store has a table with two places, and no two rows of it agree at the first one only."""
    return max(one, other) < store.tables.get(table, 0) and keeps_keys(store, ((table, one, other),))


def holds(pledge, question, store, total):
    """Whether a pledge holds of a question in a store with so many readings."""
    word, *rest = pledge
    if word == "key":
        return _has_key(store, *rest)
    if word == "width":
        return width_of(question) <= rest[0]
    if word == "answered":
        return total > 0
    if word == "least":
        return total >= rest[0]
    if word == "most":
        return total <= rest[0]
    return _holds_of_question(word, question)
