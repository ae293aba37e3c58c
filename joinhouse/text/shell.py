"""A shell: commands on a bench, and the answers to them, as texts."""

from joinhouse.base.readings import count_of, counts
from joinhouse.base.words import MAX_WIDTH, is_figures, is_name, words_of
from joinhouse.change.forests import forest_of
from joinhouse.errors import (
    InvalidClause,
    InvalidOperation,
    InvalidQuestion,
    InvalidRow,
    NothingToUndo,
    Refused,
    TooMany,
    UnknownName,
)
from joinhouse.fold.cores import core_of
from joinhouse.order.layers import layered_order
from joinhouse.shape.knots import knot_of
from joinhouse.shape.reducers import full_reducer
from joinhouse.shape.trees import join_tree
from joinhouse.size.bounds import size_bound
from joinhouse.strike.lines import cheapest_strike, line_of
from joinhouse.text.texts import read_question, read_store, write_knot, write_links
from joinhouse.use.bench import Bench
from joinhouse.use.pledges import rest_of
from joinhouse.width.bags import width_of

_NONE = "none"

# What stands behind the word of each command.
_FORMS = {
    "join": "clause",
    "drop": "clause",
    "ask": "columns",
    "put": "entry",
    "take": "entry",
    "shrink": "",
    "reduce": "",
    "demand": "pledge",
    "waive": "pledge",
    "undo": "",
    "redo": "",
    "lines": "",
    "pledges": "",
    "total": "",
    "width": "",
    "answers": "",
    "count": "row",
    "tree": "",
    "reducer": "",
    "knot": "",
    "core": "",
    "forest": "",
    "line": "",
    "order": "",
    "bound": "",
    "strike": "",
}


def _are_all_names(words):
    """Whether all of some words are names."""
    return all([is_name(word) for word in words])


def _numbers_in(words):
    """The tuple of one to eight numbers that words write, None if they do not."""
    if not 1 <= len(words) <= MAX_WIDTH or not all([is_figures(word) for word in words]):
        return None
    return tuple([int(word) for word in words])


def _clause_in(words):
    """The clause of a table and of columns that words tell, None if they do not; it can have too many columns."""
    return (words[0], words[1:]) if len(words) > 1 and _are_all_names(words) else None


def _entry_in(words):
    """The pair of a table and a row that words tell, None if they do not."""
    row = _numbers_in(words[1:])
    return (words[0], row) if row is not None and is_name(words[0]) else None


def _pledge_in(words):
    """The word, names and numbers of a pledge that words tell, None if they do not; they can make no pledge."""
    rest = rest_of(words[0]) if words else None
    if rest is None or len(words) != len(rest) + 1:
        return None
    kinds = list(zip(rest, words[1:]))
    if not all([is_name(word) if kind == "name" else is_figures(word) for kind, word in kinds]):
        return None
    return (words[0], *[word if kind == "name" else int(word) for kind, word in kinds])


def _argument_in(form, words):
    """What words tell that stand behind the word of a command, None if they are not of the form."""
    if form == "clause":
        return _clause_in(words)
    if form == "entry":
        return _entry_in(words)
    if form == "pledge":
        return _pledge_in(words)
    if form == "row":
        return _numbers_in(words)
    if form == "columns":
        return words if _are_all_names(words) else None
    return None if words else ()


def _told_pledge(pledge):
    """A pledge as a text."""
    return " ".join([str(part) for part in pledge])


def _several(items):
    """Some items as a text."""
    return "; ".join(items) if items else "nothing"


def _told_news(news):
    """The news of a change as a text."""
    return f"from {news[0]} to {news[1]}" if news else "nothing"


def _told_numbers(numbers):
    """Some numbers with blanks between them."""
    return " ".join([str(number) for number in numbers])


def _changed(bench, word, told):
    """The news of a change of a bench by a command."""
    if word == "join":
        return bench.adjoin(told)
    if word == "drop":
        return bench.drop(told)
    if word == "ask":
        return bench.ask(*told)
    if word == "put":
        return bench.put(*told)
    if word == "take":
        return bench.take(*told)
    if word == "demand":
        return bench.demand(told)
    if word == "waive":
        return bench.waive(told)
    if word == "shrink":
        return bench.shrink()
    if word == "reduce":
        return bench.reduce()
    return bench.undo() if word == "undo" else bench.redo()


def _lines(bench):
    """The lines of a bench."""
    return _several(list(bench))


def _pledges(bench):
    """The pledges of a bench."""
    return _several([_told_pledge(pledge) for pledge in bench.pledges])


def _total(bench):
    """The number of readings."""
    return str(bench.total)


def _width(bench):
    """The width of the question."""
    return str(width_of(bench.question))


def _answers(bench):
    """The answers with their counts."""
    found = counts(bench.question, bench.store)
    return _several([f"{_told_numbers(answer)}: {found[answer]}" for answer in found])


def _tree(bench):
    """Any join tree."""
    links = join_tree(bench.question)
    return _NONE if links is None else write_links(links)


def _reducer(bench):
    """Any full reducer."""
    steps = full_reducer(bench.question)
    return _NONE if steps is None else write_links(steps)


def _knot(bench):
    """Any knot."""
    knot = knot_of(bench.question)
    return _NONE if knot is None else write_knot(knot)


def _core(bench):
    """Any core."""
    return str(core_of(bench.question))


def _forest(bench):
    """Any forest."""
    forest = forest_of(bench.question)
    if forest is None:
        return _NONE
    return _several([name if above is None else f"{name} under {above}" for name, above in forest])


def _line(bench):
    """Any line."""
    line = line_of(bench.question)
    return _NONE if line is None else _told_numbers(line)


def _order(bench):
    """Any layered order."""
    order = layered_order(bench.question)
    return _NONE if order is None else " ".join(order)


def _bound(bench):
    """The size bound with all sizes 1 and without keys."""
    sizes = {table: (1, 1) for table in bench.question.tables}
    one, other = size_bound(bench.question, sizes, ())
    return f"{one}/{other}"


def _strike(bench):
    """The price of the cheapest strike, where each row has the price 1."""
    return str(len(cheapest_strike(bench.question, bench.store)))


_QUERIES = {
    "lines": _lines,
    "pledges": _pledges,
    "total": _total,
    "width": _width,
    "answers": _answers,
    "tree": _tree,
    "reducer": _reducer,
    "knot": _knot,
    "core": _core,
    "forest": _forest,
    "line": _line,
    "order": _order,
    "bound": _bound,
    "strike": _strike,
}


def _outcome(bench, line):
    """The answer to a command, None for every value that is none."""
    word, *rest = words_of(line)
    form = _FORMS.get(word)
    told = None if form is None else _argument_in(form, tuple(rest))
    if told is None:
        return None
    if word == "count":
        return str(count_of(bench.question, bench.store, told))
    if word in _QUERIES:
        query = _QUERIES[word]
        return query(bench)
    return _told_news(_changed(bench, word, told))


class Shell:
    """Answers commands on a bench."""

    def __init__(self, question, store):
        asked = read_question(question)
        self._bench = Bench(asked, read_store(store))
        self._answered = []

    def answer(self, line):
        """The answer to a command, or the word of its error."""
        try:
            told = _outcome(self._bench, line)
        except InvalidQuestion:
            return "question"
        except InvalidClause:
            return "clause"
        except InvalidRow:
            return "row"
        except InvalidOperation:
            return "operation"
        except UnknownName:
            return "unknown"
        except TooMany as beyond:
            return f"many {beyond.limit}"
        except NothingToUndo:
            return "undo"
        except Refused as refused:
            return f"refused {_told_pledge(refused.pledge)}"
        if told is None:
            return "what"
        self._answered.append(line)
        return told

    def bench(self):
        """An independent copy of the bench."""
        return self._bench.twin()

    def __call__(self, line):
        return self.answer(line)

    def __len__(self):
        return len(self._answered)
