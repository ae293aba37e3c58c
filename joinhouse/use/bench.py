"""A bench: a question and a store that are worked on under pledges, with changes that can be taken back."""

from joinhouse.base.stores import Store, check_fit
from joinhouse.base.words import is_count
from joinhouse.errors import InvalidNumber, InvalidOperation, NothingToUndo, Refused, TooMany
from joinhouse.fold.cores import core_of
from joinhouse.shape.reducers import read_rows
from joinhouse.use.pledges import holds, is_pledge
from joinhouse.work.ways import count_all

MAX_PLEDGES = 10


def _news(before, total):
    """What a change tells of the number of readings."""
    return () if before == total else (before, total)


class Trial:
    """A block behind which a bench is as before it."""

    def __init__(self, bench):
        self._bench = bench
        self._now = bench._now
        self._lines = bench._lines
        self._done = bench._done
        self._undone = bench._undone

    def __enter__(self):
        # The bench can have changed since the trial was made.
        self._now = self._bench._now
        self._lines = self._bench._lines
        self._done = self._bench._done
        self._undone = self._bench._undone
        return self._bench

    def __exit__(self, kind, value, trace):
        self._bench._now = self._now
        self._bench._lines = self._lines
        self._bench._done = self._done
        self._bench._undone = self._undone


class Bench:
    """A question and a store with pledges, which change.

    How things are is a tuple of the question, the store, the number of readings, and the pledges. Such tuples never
    change, so that those ahead of each change, and those that were taken back, are kept as they were.
    """

    def __init__(self, question, store):
        check_fit(question, store)
        self._done = ()
        self._undone = ()
        self._now = (question, store, count_all(question, store), ())
        self._lines = (*question.lines, *store.lines)

    @property
    def question(self):
        """The question."""
        return self._now[0]

    @property
    def store(self):
        """The store."""
        return self._now[1]

    @property
    def total(self):
        """The number of readings."""
        return self._now[2]

    @property
    def pledges(self):
        """The tuple of the pledges, in the order of demands."""
        return self._now[3]

    def _go_to(self, now):
        """Makes things be so; the news."""
        before = self._now[2]
        self._now = now
        self._lines = (*now[0].lines, *now[1].lines)
        return _news(before, now[2])

    def _change_to(self, now):
        """Makes things be so by a change, which can be taken back; the news."""
        self._done = (*self._done, self._now)
        self._undone = ()
        return self._go_to(now)

    def _change(self, question, store, total):
        """Changes to a question and a store with so many readings, if all pledges hold; the news."""
        pledges = self._now[3]
        for pledge in pledges:
            if not holds(pledge, question, store, total):
                raise Refused(pledge)
        return self._change_to((question, store, total, pledges))

    def _change_and_count(self, question, store):
        """Changes to a question and a store, if they have not too many readings, and all pledges hold; the news."""
        return self._change(question, store, count_all(question, store))

    def adjoin(self, clause):
        """With one clause more."""
        return self._change_and_count(self._now[0].with_clause(clause), self._now[1])

    def drop(self, clause):
        """With one clause less."""
        return self._change_and_count(self._now[0].without_clause(clause), self._now[1])

    def ask(self, *columns):
        """With these asked columns."""
        # The readings are the same, whatever is asked.
        return self._change(self._now[0].asking(*columns), self._now[1], self._now[2])

    def put(self, table, row):
        """With one row more."""
        return self._change_and_count(self._now[0], self._now[1].with_row(table, row))

    def take(self, table, row):
        """With one row less."""
        return self._change_and_count(self._now[0], self._now[1].without_row(table, row))

    def shrink(self):
        """With any core of the question in its place."""
        return self._change_and_count(core_of(self._now[0]), self._now[1])

    def reduce(self):
        """With just those rows in the tables of the question that some reading reads."""
        question, store = self._now[:2]
        read = {clause[0]: rows for clause, rows in zip(question.clauses, read_rows(question, store))}
        rows = {table: read[table] if table in read else store.rows(table) for table in store.tables}
        # The readings are the same.
        return self._change(question, Store(store.tables, rows), self._now[2])

    def demand(self, pledge):
        """With one pledge more."""
        question, store, total, pledges = self._now
        if not is_pledge(pledge) or pledge in pledges:
            raise InvalidOperation("no pledge, or it is there already")
        if len(pledges) >= MAX_PLEDGES:
            raise TooMany(MAX_PLEDGES)
        if not holds(pledge, question, store, total):
            raise Refused(pledge)
        return self._change_to((question, store, total, (*pledges, pledge)))

    def waive(self, pledge):
        """With one pledge less."""
        question, store, total, pledges = self._now
        if not is_pledge(pledge) or pledge not in pledges:
            raise InvalidOperation("no such pledge is there")
        return self._change_to((question, store, total, tuple([other for other in pledges if other != pledge])))

    def undo(self, *, many=1):
        """Takes back so many changes."""
        if not is_count(many):
            raise InvalidNumber(many)
        if many > len(self._done):
            raise NothingToUndo(many)
        at = len(self._done) - many
        states = (*self._done, self._now)
        self._done = states[:at]
        self._undone = (*self._undone, *states[:at:-1])
        return self._go_to(states[at])

    def redo(self, *, many=1):
        """Does so many changes again that were taken back."""
        if not is_count(many):
            raise InvalidNumber(many)
        if many > len(self._undone):
            raise NothingToUndo(many)
        at = len(self._undone) - many
        states = (*self._undone, self._now)
        self._undone = states[:at]
        self._done = (*self._done, *states[:at:-1])
        return self._go_to(states[at])

    def trial(self):
        """What a block is entered by behind which the bench is as before it."""
        return Trial(self)

    def during(self, call):
        """What a call of the bench returns in such a block."""
        with self.trial() as same:
            return call(same)

    def twin(self):
        """An independent copy, with the changes that can be taken back and done again."""
        other = Bench(self._now[0], self._now[1])
        other._now = self._now
        other._done = self._done
        other._undone = self._undone
        return other

    def __contains__(self, value):
        if isinstance(value, str):
            return value in self._lines
        return is_pledge(value) and value in self._now[3]

    def __len__(self):
        return len(self._now[3])

    def __iter__(self):
        return iter(self._lines)

    def __eq__(self, other):
        if not isinstance(other, Bench) or self._now[3] != other._now[3]:
            return False
        return self._now[0] == other._now[0] and self._now[1] == other._now[1]

    def __str__(self):
        return f"bench of {len(self._now[0])} clauses, {len(self._now[1])} rows, {len(self._now[3])} pledges"
