"""Questions, and which of them are alike."""

from joinhouse.base.words import (
    are_different,
    are_names,
    is_ascending,
    is_dict_from,
    is_name,
    is_naming,
    is_pair,
    is_width,
    words_of,
)
from joinhouse.errors import InvalidClause, InvalidOperation, InvalidQuestion, ParseError, UnknownName

MAX_CLAUSES = 8
MAX_COLUMNS = 8

_LETTERS = "abcdefgh"


def is_clause(value):
    """Whether the value is a pair of a table's name and of one to eight columns."""
    return is_pair(value) and is_name(value[0]) and are_names(value[1]) and is_width(len(value[1]))


def _columns_of(clauses):
    """The ascending tuple of all columns of some clauses."""
    return tuple(sorted(set([column for _, columns in clauses for column in columns])))


def _tables_of(clauses):
    """A dict from the tables of ascending clauses to their widths."""
    return {table: len(columns) for table, columns in clauses}


def _are_clauses(value):
    """Whether the value is the tuple of clauses of some question."""
    if not isinstance(value, tuple) or not 1 <= len(value) <= MAX_CLAUSES:
        return False
    if not all([is_clause(clause) for clause in value]) or not is_ascending(value):
        return False
    widths = _tables_of(value)
    return len(_columns_of(value)) <= MAX_COLUMNS and all([widths[table] == len(columns) for table, columns in value])


def _are_asked(clauses, value):
    """Whether the value is a tuple of different columns of some clauses."""
    if not are_names(value) or not are_different(value):
        return False
    columns = _columns_of(clauses)
    return all([column in columns for column in value])


def _first_ones(names):
    """Some names, each at its first place only."""
    return tuple([name for at, name in enumerate(names) if name not in names[:at]])


def lots_of(groups):
    """The ascending tuple of the ascending tuples of names that hang together by groups of them."""
    lots = []
    for group in groups:
        met = [lot for lot in lots if any([name in lot for name in group])]
        joined = sorted(set([*group, *[name for lot in met for name in lot]]))
        lots = [*[lot for lot in lots if lot not in met], tuple(joined)]
    return tuple(sorted(lots))


def _clause_or_asked(line):
    """A pair of the first word of a line and of what it tells, None for a value that is no line."""
    words = words_of(line)
    if words[0] == "clause" and len(words) > 1 and is_clause((words[1], words[2:])):
        return "clause", (words[1], words[2:])
    if words[0] == "asked" and are_names(words[1:]) and are_different(words[1:]):
        return "asked", words[1:]
    return None


class Question:
    """Some clauses, and the columns that are asked of them. It never changes."""

    def __init__(self, clauses, asked):
        if not _are_clauses(clauses) or not _are_asked(clauses, asked):
            raise InvalidQuestion("no question has these clauses and asked columns")
        self._clauses = clauses
        self._asked = asked
        self._columns = _columns_of(clauses)
        self._tables = _tables_of(clauses)

    @classmethod
    def from_lines(cls, *lines):
        """The question with these lines, in any order."""
        clauses = []
        asked = []
        for at, line in enumerate(lines):
            told = _clause_or_asked(line)
            if told is None or told[1] in clauses or (told[0] == "asked" and asked):
                raise ParseError(at)
            if told[0] == "asked":
                asked.append(told[1])
            else:
                clauses.append(told[1])
        return cls(tuple(sorted(clauses)), asked[0] if asked else ())

    @property
    def clauses(self):
        """The ascending tuple of the clauses."""
        return self._clauses

    @property
    def asked(self):
        """The tuple of the asked columns."""
        return self._asked

    @property
    def lines(self):
        """The tuple of the lines that tell this question."""
        told = [" ".join(["clause", table, *columns]) for table, columns in self._clauses]
        return (*told, " ".join(["asked", *self._asked]))

    @property
    def columns(self):
        """The ascending tuple of all columns."""
        return self._columns

    @property
    def tables(self):
        """A dict from the names of the tables to their widths."""
        return dict(self._tables)

    @property
    def is_plain(self):
        """Whether no table stands in two clauses."""
        return len(self._tables) == len(self._clauses)

    @property
    def lots(self):
        """The ascending tuple of the lots of columns that hang together by clauses."""
        return lots_of([columns for _, columns in self._clauses])

    @property
    def spread(self):
        """The plain question with a table of its own for each clause."""
        clauses = [(f"c{letter}", clause[1]) for letter, clause in zip(_LETTERS, self._clauses)]
        return Question(tuple(clauses), self._asked)

    @property
    def full(self):
        """This question with all columns asked."""
        return Question(self._clauses, self._columns)

    def index(self, clause):
        """The index of a clause."""
        if clause not in self._clauses:
            raise InvalidClause("the question has no such clause")
        return self._clauses.index(clause)

    def having(self, column):
        """The ascending tuple of the indices of the clauses with a column."""
        if column not in self._columns:
            raise UnknownName(column)
        return tuple([at for at, clause in enumerate(self._clauses) if column in clause[1]])

    def with_clause(self, clause):
        """This question with one clause more."""
        if not is_clause(clause) or clause in self._clauses:
            raise InvalidClause("no clause, or it is there already")
        return Question(tuple(sorted([*self._clauses, clause])), self._asked)

    def without_clause(self, clause):
        """This question with one clause less, and without the asked columns that it alone has."""
        at = self.index(clause)
        clauses = self._clauses[:at] + self._clauses[at + 1:]
        left = _columns_of(clauses)
        return Question(clauses, tuple([column for column in self._asked if column in left]))

    def asking(self, *columns):
        """This question with these asked columns."""
        for column in columns:
            if column not in self._columns:
                raise UnknownName(column)
        return Question(self._clauses, columns)

    def renamed(self, names):
        """This question with other columns, different ones for different ones."""
        if not is_naming(self._columns, names):
            raise InvalidOperation("no dict from just the columns to different names")
        return self.folded(names)

    def retabled(self, names):
        """This question with other tables, different ones for different ones."""
        if not is_naming(tuple(self._tables), names):
            raise InvalidOperation("no dict from just the tables to different names")
        return Question(tuple(sorted([(names[table], columns) for table, columns in self._clauses])), self._asked)

    def folded(self, names):
        """This question with other columns, in which different ones can become one."""
        if not is_dict_from(self._columns, names) or not are_names(tuple(names.values())):
            raise InvalidOperation("no dict from just the columns to names")
        clauses = [(table, tuple([names[column] for column in columns])) for table, columns in self._clauses]
        asked = [names[column] for column in self._asked]
        return Question(tuple(sorted(set(clauses))), _first_ones(asked))

    def __add__(self, other):
        if not isinstance(other, Question):
            return NotImplemented
        clauses = sorted(set([*self._clauses, *other._clauses]))
        return Question(tuple(clauses), _first_ones([*self._asked, *other._asked]))

    def __contains__(self, value):
        return value in self._clauses

    def __len__(self):
        return len(self._clauses)

    def __iter__(self):
        return iter(self._clauses)

    def __eq__(self, other):
        return isinstance(other, Question) and self._clauses == other._clauses and self._asked == other._asked

    def __str__(self):
        return " ".join([*self._asked, ":", *[f"{table}({' '.join(columns)})" for table, columns in self._clauses]])


def check_questions(*values):
    """Refuses each value that is no question."""
    for value in values:
        if not isinstance(value, Question):
            raise InvalidQuestion("no question")


def check_plain(question):
    """Refuses what is no plain question."""
    check_questions(question)
    if not question.is_plain:
        raise InvalidOperation("the question is not plain")


def are_comparable(*questions):
    """Whether each two of some questions have equally many asked columns, and their common tables are equally wide."""
    widths = {}
    for question in questions:
        if len(question.asked) != len(questions[0].asked):
            return False
        for table, width in question.tables.items():
            if widths.setdefault(table, width) != width:
                return False
    return True


def check_comparable(one, other):
    """Refuses what is no question, and questions that are not comparable."""
    check_questions(one, other)
    if not are_comparable(one, other):
        raise InvalidOperation("the questions are not comparable")


def are_alike(one, other):
    """Whether one question becomes the other one by a renaming of its columns."""
    return alikeness(one, other) is not None


def is_alikeness(one, other, value):
    """Whether the value is a dict by which one question renamed is the other one."""
    check_questions(one, other)
    return is_naming(one.columns, value) and one.renamed(value) == other


def alikeness(one, other):
    """Any dict by which one question renamed is the other one, None if there is none."""
    check_questions(one, other)
    for names in each_alikeness(one, other):
        return names
    return None


def each_alikeness(one, other):
    """A generator of all dicts by which one question renamed is the other one."""
    if len(one) == len(other) and len(one.asked) == len(other.asked):
        begin = _led({}, one.asked, other.asked)
        if begin is not None:
            for names in _each_led(begin, one.clauses, other.clauses):
                yield {column: names[column] for column in one.columns}


def _led(names, columns, others):
    """A one to one dict that also leads columns to others, place by place, None if there is none."""
    longer = dict(names)
    for column, other in zip(columns, others):
        if column not in longer and other not in list(longer.values()):
            longer[column] = other
        if longer.get(column, "") != other:
            return None
    return longer


def _each_led(names, clauses, others):
    """A generator of the one to one dicts that also lead each of some clauses to one of others."""
    if not clauses:
        yield names
    else:
        table, columns = clauses[0]
        rest = clauses[1:]
        for name, places in others:
            # As the dict is one to one, two clauses never come to the same one.
            longer = _led(names, columns, places) if name == table and len(places) == len(columns) else None
            if longer is not None:
                yield from _each_led(longer, rest, others)
