"""Points 18.1, 18.2 and the class of joinhouse.use.bench."""

import itertools
import random
import unittest

from joinhouse.base.questions import Question
from joinhouse.base.stores import Store, fits
from joinhouse.change.forests import crossing_of
from joinhouse.errors import (
    InvalidClause,
    InvalidNumber,
    InvalidOperation,
    InvalidQuestion,
    InvalidRow,
    InvalidStore,
    JoinError,
    NothingToUndo,
    Refused,
    TooMany,
    UnknownName,
)
from joinhouse.fold.cores import is_core, is_core_of
from joinhouse.shape.trees import join_tree
from joinhouse.strike.lines import trio_of
from joinhouse.use import bench as module
from joinhouse.use.bench import Bench
from joinhouse.width.bags import least_order, order_width
from tests.brute import all_readings, asking, rows_in_readings, shape, some_question, some_store
from tests.samples import LOOP, PATH, RING, SIXTY, SIXTY_ONE, STORE, TWICE, VALUES, RefusingCase

FORMS = (("plain",), ("tree",), ("core",), ("forest",), ("line",), ("answered",))
BENT = (
    ("plain", 1), ("tree", ()), "plain", ["plain"], ("Plain",), ("plain ",), (), ("width",), ("width", 8), ("width", -1),
    ("width", True), ("width", "1"), ("width", 1, 1), ("width", None), ("width", [1]), ("least",), ("least", -1),
    ("least", SIXTY_ONE), ("least", False), ("most", True), ("most", -1), ("most", SIXTY_ONE), ("most", 1, 2), ("answered", 1),
    ("key", "r", 0), ("key", "r", 0, 0), ("key", "r", 0, 8), ("key", "r", 8, 0), ("key", "R", 0, 1), ("key", 0, 0, 1),
    ("key", "r", 0, True), ("key", "r", False, 1), ("key", "r", -1, 0), ("key", "r", 0, 1, 2), ("key", ("r",), 0, 1),
    ["key", "r", 0, 1], ("key", "abcdefghi", 0, 1), ("knot",), ("bag", 1), (None,), (("plain",),), ("least", 1.5),
)


def has_key(store, table, one, other):
    """Whether a store has a table with two places, and no two rows of it agree at the first one only."""
    if max(one, other) >= store.tables.get(table, 0):
        return False
    rows = store.rows(table)
    return all(first[one] != second[one] or first[other] == second[other] for first in rows for second in rows)


def holds_by_words(pledge, question, store):
    """Whether a pledge holds, by the words of point 18.1."""
    word, *rest = pledge
    if word == "plain":
        return len({name for name, _ in question.clauses}) == len(question)
    if word in ("tree", "core", "forest", "line"):
        tests = {"tree": lambda: join_tree(question) is not None, "core": lambda: is_core(question),
                 "forest": lambda: crossing_of(question) is None, "line": lambda: trio_of(question) is None}
        return tests[word]()
    if word == "width":
        return order_width(question, least_order(question)) <= rest[0]
    if word == "key":
        return has_key(store, *rest)
    many = len(all_readings(question, store))
    return many > 0 if word == "answered" else many >= rest[0] if word == "least" else many <= rest[0]


class Record:
    """What a bench must tell, kept beside it."""

    def __init__(self, question, store):
        self.now = (question, store, ())
        self.done = []
        self.undone = []

    def total(self):
        return len(all_readings(*self.now[:2]))

    def expected(self, name, *values):
        """What a call makes of question, store and pledges, or the pair of its error and what this keeps."""
        question, store, pledges = self.now
        try:
            if name in ("adjoin", "drop"):
                change = question.with_clause if name == "adjoin" else question.without_clause
                question = change(*values)
            elif name == "ask":
                question = question.asking(*values)
            elif name in ("put", "take"):
                change = store.with_row if name == "put" else store.without_row
                store = change(*values)
        except (JoinError, UnknownName) as caught:
            return caught.__class__, None
        if not fits(store, question):
            return InvalidOperation, None
        if name == "reduce":
            if not question.is_plain:
                return InvalidOperation, None
            read = dict(zip([clause[0] for clause in question.clauses], rows_in_readings(question, store)))
            store = Store(store.tables, {table: read.get(table, store.rows(table)) for table in store.tables})
        for pledge in pledges:
            if not holds_by_words(pledge, question, store):
                return Refused, pledge
        return question, store, pledges

    def pledged(self, name, pledge):
        """The same for a demand or a waiving of a pledge."""
        question, store, pledges = self.now
        if (pledge in pledges) == (name == "demand"):
            return InvalidOperation, None
        if name == "waive":
            return question, store, tuple(other for other in pledges if other != pledge)
        if len(pledges) == 10:
            return TooMany, 10
        return (question, store, (*pledges, pledge)) if holds_by_words(pledge, question, store) else (Refused, pledge)

    def go(self, now):
        """Goes over to a state by a change."""
        self.done.append(self.now)
        self.undone = []
        self.now = now

    def back(self, many):
        for _ in range(many):
            self.undone.append(self.now)
            self.now = self.done.pop()

    def again(self, many):
        for _ in range(many):
            self.done.append(self.now)
            self.now = self.undone.pop()


def some_pledge(chance, total):
    form = chance.randrange(4)
    if form == 0:
        return chance.choice(FORMS)
    if form == 1:
        return "width", chance.randint(0, 3)
    if form == 2:
        return chance.choice(("least", "most")), max(0, total + chance.randint(-3, 3))
    return "key", chance.choice("rstx"), *chance.sample(range(3), 2)


def some_call(chance, question, store):
    """The name and the arguments of a change by chance, most of them right."""
    name = chance.choice(("adjoin", "drop", "ask", "put", "put", "take", "take", "shrink", "reduce"))
    if name == "adjoin":
        table = chance.choice("rstw")
        return name, (table, tuple(chance.choices("abcd", k={"r": 2, "s": 2, "t": 1, "w": 3}[table])))
    if name == "drop":
        return name, chance.choice(question.clauses)
    if name == "ask":
        return name, *chance.choices(("a", *question.columns), k=chance.randint(0, 2))
    if name in ("put", "take"):
        table = chance.choice("rst")
        rows = store.rows(table)
        if rows and chance.random() < 0.6:
            return name, table, chance.choice(rows)
        return name, table, tuple(chance.choices(range(3), k=store.tables[table]))
    return (name,)


class WalksTest(RefusingCase):

    def told(self, bench, record):
        """Checks all that a bench tells against its record."""
        question, store, pledges = record.now
        self.assertEqual((bench.question, bench.store, bench.pledges), (question, store, pledges))
        self.assertEqual(bench.total, record.total())
        self.assertEqual(list(bench), [*question.lines, *store.lines])
        self.assertEqual(len(bench), len(pledges))
        self.assertEqual(str(bench), f"bench of {len(question)} clauses, {len(store)} rows, {len(pledges)} pledges")
        fresh = Bench(question, store)
        for pledge in pledges:
            fresh.demand(pledge)
        self.assertEqual(bench, fresh)

    def news(self, record, before):
        return () if before == record.total() else (before, record.total())

    def check(self, bench, record, call, right):
        """Does a change, or checks that it is refused."""
        before = record.total()
        if right[0].__class__ is type:
            error, kept = right
            with self.assertRaises(error) as caught:
                call()
            self.assertEqual(caught.exception.__class__, error)
            if error is Refused:
                self.assertEqual(caught.exception.pledge, kept)
            return 0
        told = call()
        record.go(right)
        self.assertEqual(told, self.news(record, before))
        return 1

    def step(self, chance, bench, record):
        kind = chance.random()
        if kind < 0.25:
            name = chance.choice(("demand", "demand", "waive"))
            pledge = chance.choice(record.now[2]) if record.now[2] and chance.random() < 0.3 else (
                some_pledge(chance, record.total()))
            return self.check(bench, record, lambda: getattr(bench, name)(pledge), record.pledged(name, pledge))
        if kind < 0.45:
            many = chance.choice((0, 1, 1, 2, 3))
            name = chance.choice(("undo", "redo"))
            there = len(record.done) if name == "undo" else len(record.undone)
            call = getattr(bench, name)
            if many > there:
                self.refused(NothingToUndo, call, many=many, keeps=("many", many))
                return 0
            before = record.total()
            if name == "undo":
                record.back(many)
            else:
                record.again(many)
            self.assertEqual(call(many=many), self.news(record, before))
            return 1
        name, *values = some_call(chance, *record.now[:2])
        if name == "shrink":
            return self.shrink(bench, record)
        return self.check(bench, record, lambda: getattr(bench, name)(*values), record.expected(name, *values))

    def shrink(self, bench, record):
        question, store, pledges = record.now
        twin = bench.twin()
        try:
            twin.shrink()
        except Refused as caught:
            self.assertIn(caught.pledge, pledges)
            self.assertFalse(is_core(question))
            with self.assertRaises(Refused):
                bench.shrink()
            return 0
        core = twin.question
        self.assertTrue(is_core_of(question, core))
        return self.check(bench, record, bench.shrink, (core, store, pledges))

    def test_walks(self):
        chance = random.Random(1)
        done = 0
        for _ in range(40):
            while True:
                question, store = some_question(chance, letters="abc", most=3), some_store(chance, most=4, values=2, great=0)
                if fits(store, question):
                    break
            bench, record = Bench(question, store), Record(question, store)
            self.told(bench, record)
            for at in range(40):
                done += self.step(chance, bench, record)
                self.told(bench, record)
        self.assertGreater(done, 500)

    def test_walks_within_trials(self):
        chance = random.Random(2)
        for _ in range(15):
            question, store = PATH, STORE
            bench, record = Bench(question, store), Record(question, store)
            for _ in range(8):
                self.step(chance, bench, record)
            bench.undo(many=len(record.done) // 2)
            record.back(len(record.done) // 2)
            kept = (record.now, list(record.done), list(record.undone))
            with bench.trial() as same:
                self.assertTrue(same is bench)
                for _ in range(10):
                    self.step(chance, bench, record)
                self.told(bench, record)
            record.now, record.done, record.undone = kept
            self.told(bench, record)
            for _ in range(10):
                self.step(chance, bench, record)
                self.told(bench, record)


class ChangesTest(RefusingCase):

    def setUp(self):
        self.bench = Bench(PATH, STORE)

    def unchanged(self, bench=None):
        """Checks that nothing was changed by refused calls."""
        bench = bench or self.bench
        self.assertEqual(bench, Bench(PATH, STORE))
        self.assertEqual((bench.total, len(bench)), (5, 0))
        self.refused(NothingToUndo, bench.undo, keeps=("many", 1))
        self.refused(NothingToUndo, bench.redo, keeps=("many", 1))

    def test_adjoin_and_drop(self):
        bench = self.bench
        self.assertEqual(bench.adjoin(("t", ("a", "c"))), (5, 1))
        self.assertEqual(bench.question, PATH + RING.asking("a", "c"))
        self.assertEqual(bench.drop(("s", ("b", "c"))), ())
        self.assertEqual(str(bench.question), "a c : r(a b) t(a c)")
        self.assertEqual(bench.drop(("t", ("a", "c"))), (1, 3))
        self.assertEqual(str(bench.question), "a : r(a b)")
        self.refused(InvalidQuestion, bench.drop, ("r", ("a", "b")))

    def test_errors_of_clauses(self):
        bench = self.bench
        for value in (*VALUES, ("r", ("a",) * 9)):
            if value != ("r", ("a", "b")):
                self.refused(InvalidClause, bench.drop, value)
                self.refused(InvalidClause, bench.adjoin, value)
        self.refused(InvalidClause, bench.adjoin, ("r", ("a", "b")))
        self.refused(InvalidClause, bench.drop, ("r", ("b", "a")))
        self.refused(InvalidQuestion, bench.adjoin, ("r", ("a",)))
        self.refused(InvalidQuestion, bench.adjoin, ("z", tuple("defghijk")))
        self.refused(InvalidOperation, bench.adjoin, ("z", ("a",)))
        self.refused(InvalidOperation, bench.adjoin, ("t", ("a",)))
        self.unchanged()

    def test_ask(self):
        bench = self.bench
        self.assertEqual((bench.ask("b"), bench.question), ((), PATH.asking("b")))
        self.assertEqual((bench.ask(), bench.question), ((), PATH.asking()))
        self.assertEqual((bench.ask("c", "a", "b"), bench.question.asked), ((), ("c", "a", "b")))
        bench.undo(many=3)
        for value in (*VALUES, "d"):
            if value != "a":
                self.refused(UnknownName, bench.ask, value, keeps=("word", value))
                self.refused(UnknownName, bench.ask, "a", "a", value, None, keeps=("word", value))
        self.refused(InvalidQuestion, bench.ask, "a", "b", "a")
        self.assertEqual(bench.redo(many=3), ())

    def test_rows(self):
        bench = self.bench
        self.assertEqual(bench.put("s", (2, 6)), (5, 6))
        self.assertEqual(bench.put("t", (9, 9)), ())
        self.assertEqual(bench.take("r", (1, 2)), (6, 4))
        self.assertEqual(bench.store, STORE.with_row("s", (2, 6)).with_row("t", (9, 9)).without_row("r", (1, 2)))
        self.assertEqual(bench.undo(many=3), (4, 5))
        for value in (*VALUES, "x"):
            if value != "r":
                for call in (bench.put, bench.take):
                    self.refused(UnknownName, call, value, value, keeps=("word", value))
        for value in (*VALUES, (1, 2, 3), [1, 4], (1, True)):
            self.refused(InvalidRow, bench.put, "r", value)
            if value != (1, 2):
                self.refused(InvalidRow, bench.take, "r", value)
        self.assertEqual(bench.redo(many=3), (5, 4))

    def test_three_thousand_rows(self):
        rows = tuple((at, 0) for at in range(2999))
        bench = Bench(PATH, Store({"r": 2, "s": 2}, {"r": rows}))
        self.assertEqual(bench.put("s", (0, 1)), (0, 2999))
        self.refused(TooMany, bench.put, "s", (0, 2), keeps=("limit", 3000))
        bench.demand(("most", 2999))
        self.refused(TooMany, bench.put, "s", (0, 2), keeps=("limit", 3000))
        self.assertEqual(bench.take("r", (0, 0)), (2999, 2998))
        self.refused(Refused, bench.put, "s", (0, 2), keeps=("pledge", ("most", 2999)))

    def test_shrink(self):
        bench = Bench(TWICE, STORE)
        self.assertEqual(bench.total, 5)
        self.assertEqual(bench.shrink(), (5, 3))
        self.assertTrue(is_core_of(TWICE, bench.question))
        self.assertEqual(bench.shrink(), ())
        self.assertEqual(bench.undo(many=2), (3, 5))
        bench.demand(("least", 4))
        self.refused(Refused, bench.shrink, keeps=("pledge", ("least", 4)))
        self.assertEqual(bench.question, TWICE)

    def test_reduce(self):
        store = STORE.with_row("r", (9, 9)).with_row("s", (8, 8))
        bench = Bench(PATH, store)
        self.assertEqual(bench.reduce(), ())
        self.assertEqual(bench.store, STORE)
        self.assertEqual(bench.reduce(), ())
        self.assertEqual(bench.undo(many=2), ())
        self.assertEqual(bench.store, store)
        ring = Bench(RING, STORE)
        self.assertEqual((ring.reduce(), ring.store.lines), ((), ("row r 4 3", "row s 3 6", "row t 4 6")))
        empty = Bench(RING, STORE.without_row("t", (4, 6)))
        self.assertEqual((empty.reduce(), len(empty.store)), ((), 0))
        other = Bench(TWICE, STORE)
        self.refused(InvalidOperation, other.reduce)
        other.demand(("answered",))
        self.refused(InvalidOperation, other.reduce)
        self.assertEqual(other.store, STORE)

    def test_too_many_readings(self):
        full = Store(RING.tables, {name: tuple(itertools.product(range(27), repeat=2)) for name in RING.tables})
        bench = Bench(RING, full)
        self.assertEqual(bench.total, 19683)
        self.assertEqual(bench.demand(("most", 19683)), ())
        self.assertEqual(bench.put("r", (27, 0)), ())
        self.refused(Refused, bench.put, "t", (27, 0), keeps=("pledge", ("most", 19683)))
        self.refused(TooMany, Bench, RING, Store(RING.tables, {
            name: tuple(itertools.product(range(28), repeat=2)) for name in RING.tables}), keeps=("limit", 20000))
        square = Bench(LOOP.without_clause(("u", ("a", "d"))), Store(LOOP.tables, {
            name: tuple(itertools.product(range(13), repeat=2)) for name in LOOP.tables}))
        self.assertEqual(square.total, 13 ** 4)
        square.demand(("most", 13 ** 4))
        self.refused(TooMany, square.adjoin, ("u", ("a", "d")), keeps=("limit", 20000))
        self.assertEqual(square.drop(("r", ("a", "b"))), (13 ** 4, 13 ** 3))

    def test_too_many_readings_by_one_row(self):
        base = {"r": 2, "s": 2, "t": 2, "u": 1, "v": 1}
        ring = asking("r a b", "s b c", "t a c", "u d", "v e")
        rows = {"r": ((0, 0),), "s": ((0, 0),), "t": ((0, 0),), "u": tuple((at,) for at in range(100)),
                "v": tuple((at,) for at in range(200))}
        bench = Bench(ring, Store(base, rows))
        self.assertEqual(bench.total, 20000)
        bench.demand(("most", 20000))
        self.refused(TooMany, bench.put, "u", (100,), keeps=("limit", 20000))
        self.refused(InvalidRow, bench.put, "u", (99,))
        self.refused(TooMany, bench.put, "v", (200,), keeps=("limit", 20000))
        self.assertEqual((bench.total, bench.undo(), len(bench)), (20000, (), 0))
        # With a join tree there is no such limit.
        self.assertEqual(bench.drop(("t", ("a", "c"))), ())
        self.assertEqual(bench.put("u", (100,)), (20000, 20200))
        self.refused(TooMany, bench.adjoin, ("t", ("a", "c")), keeps=("limit", 20000))

    def test_wrong_arguments(self):
        for value in VALUES:
            if not isinstance(value, Question):
                self.refused(InvalidQuestion, Bench, value, value)
            if not isinstance(value, Store):
                self.refused(InvalidStore, Bench, PATH, value)
        self.refused(InvalidOperation, Bench, RING, STORE.without_table("t"))
        self.assertEqual(module.MAX_PLEDGES, 10)


class PledgesTest(RefusingCase):

    def test_true_and_broken(self):
        chance = random.Random(3)
        seen = {}
        for _ in range(150):
            question = some_question(chance, letters="abcd", most=4)
            store = some_store(chance, most=3, values=2, great=0)
            bench = Bench(question, store)
            for pledge in [*FORMS, ("width", 0), ("width", 1), ("width", 2), ("least", bench.total), ("most", bench.total),
                           ("least", bench.total + 1), ("most", max(0, bench.total - 1)), ("key", "r", 0, 1),
                           ("key", "r", 1, 0), ("key", "w", 0, 2), ("key", "t", 0, 1), ("key", "x", 0, 1)]:
                twin = bench.twin()
                right = holds_by_words(pledge, question, store)
                if right:
                    self.assertEqual(twin.demand(pledge), ())
                    self.assertEqual(twin.pledges, (pledge,))
                    self.assertIs(pledge in twin, True)
                    self.assertIs(pledge in bench, False)
                else:
                    self.refused(Refused, twin.demand, pledge, keeps=("pledge", pledge))
                seen.setdefault(pledge[0], set()).add(right)
        self.assertEqual(seen, {word: {True, False} for word in ("plain", "tree", "core", "forest", "line", "answered", "width",
                                                                 "least", "most", "key")})

    def test_no_pledges(self):
        bench = Bench(PATH, STORE)
        for value in (*BENT, *VALUES):
            self.refused(InvalidOperation, bench.demand, value)
            self.refused(InvalidOperation, bench.waive, value)
            if not isinstance(value, str):
                self.assertIs(value in bench, False, value)
        bench.demand(("least", 1))
        for value in (("least", True), ["least", 1], ("least", 2)):
            self.assertIs(value in bench, False)
            self.refused(InvalidOperation, bench.waive, value)
        bench.demand(("most", SIXTY))
        bench.demand(("width", 7))
        self.assertEqual(bench.waive(("least", 1)), ())
        self.assertEqual(bench.pledges, (("most", SIXTY), ("width", 7)))

    def test_there_already_and_not_there(self):
        bench = Bench(PATH, STORE)
        bench.demand(("plain",))
        self.refused(InvalidOperation, bench.demand, ("plain",))
        self.refused(InvalidOperation, bench.waive, ("tree",))
        self.assertEqual((bench.waive(("plain",)), bench.pledges), ((), ()))
        self.refused(InvalidOperation, bench.waive, ("plain",))
        self.assertEqual((bench.undo(), bench.pledges), ((), (("plain",),)))

    def test_eleven_pledges(self):
        bench = Bench(PATH, STORE)
        pledges = tuple(("most", many) for many in range(10, 20))
        for pledge in pledges:
            self.assertEqual(bench.demand(pledge), ())
        self.assertEqual((bench.pledges, len(bench)), (pledges, 10))
        self.refused(TooMany, bench.demand, ("plain",), keeps=("limit", 10))
        # One that does not hold, too; but what is none, or there already, comes first.
        self.refused(TooMany, bench.demand, ("least", 6), keeps=("limit", 10))
        self.refused(InvalidOperation, bench.demand, ("most", 10))
        self.refused(InvalidOperation, bench.demand, ("most", -1))
        bench.waive(("most", 12))
        self.refused(Refused, bench.demand, ("least", 6), keeps=("pledge", ("least", 6)))
        self.assertEqual(bench.demand(("plain",)), ())
        self.assertEqual(bench.pledges, (*pledges[:2], *pledges[3:], ("plain",)))

    def test_the_first_pledge_that_would_not_hold(self):
        for pledges in itertools.permutations((("tree",), ("most", 5), ("plain",), ("least", 5))):
            bench = Bench(PATH, STORE)
            for pledge in pledges:
                bench.demand(pledge)
            # A second clause of r: the question is not plain.
            with self.assertRaises(Refused) as caught:
                bench.adjoin(("r", ("c", "d")))
            # No reading is left, so that the pledge of at most five holds, and that of a join tree, too.
            self.assertEqual(caught.exception.pledge, [one for one in pledges if one in (("plain",), ("least", 5))][0])
            self.refused(Refused, bench.put, "s", (2, 6), keeps=("pledge", ("most", 5)))
            self.refused(Refused, bench.take, "s", (2, 5), keeps=("pledge", ("least", 5)))
            self.assertEqual((bench.question, bench.store, bench.pledges), (PATH, STORE, pledges))

    def test_every_change_is_held_by_pledges(self):
        def with_pledge(pledge, question=PATH, store=STORE):
            bench = Bench(question, store)
            bench.demand(pledge)
            return bench

        self.refused(Refused, with_pledge(("line",)).adjoin, ("t", ("a", "c")), keeps=("pledge", ("line",)))
        self.refused(Refused, with_pledge(("forest",)).adjoin, ("t", ("c", "d")), keeps=("pledge", ("forest",)))
        self.refused(Refused, with_pledge(("tree",)).adjoin, ("t", ("a", "c")), keeps=("pledge", ("tree",)))
        self.refused(Refused, with_pledge(("width", 1)).adjoin, ("t", ("a", "c")), keeps=("pledge", ("width", 1)))
        self.refused(Refused, with_pledge(("core",), RING).adjoin, ("t", ("d", "e")), keeps=("pledge", ("core",)))
        self.refused(Refused, with_pledge(("core",), TWICE.full).ask, "a", keeps=("pledge", ("core",)))
        tree = shape("ab", "bc", "ca", "abc")
        held = with_pledge(("tree",), tree, Store(tree.tables, {}))
        self.refused(Refused, held.drop, ("td", ("a", "b", "c")), keeps=("pledge", ("tree",)))
        self.refused(Refused, with_pledge(("key", "t", 0, 1)).put, "t", (4, 7),
                     keeps=("pledge", ("key", "t", 0, 1)))
        self.refused(Refused, with_pledge(("answered",), RING).take, "t", (4, 6), keeps=("pledge", ("answered",)))
        self.refused(Refused, with_pledge(("least", 5)).drop, ("s", ("b", "c")), keeps=("pledge", ("least", 5)))
        self.refused(Refused, with_pledge(("most", 3), asking("r a b")).adjoin, ("s", ("b", "c")), keeps=("pledge", ("most", 3)))


class UndoingTest(RefusingCase):

    def test_several_changes(self):
        bench = Bench(PATH, STORE)
        states = [bench.twin()]
        for call in (
            lambda: bench.put("s", (2, 6)), lambda: bench.demand(("tree",)), lambda: bench.ask("b"),
            lambda: bench.adjoin(("t", ("a", "b"))), lambda: bench.shrink(),
            lambda: bench.reduce(), lambda: bench.waive(("tree",)), lambda: bench.drop(("t", ("a", "b"))),
            lambda: bench.ask("b"),
        ):
            call()
            states.append(bench.twin())
        last = len(states) - 1
        totals = [state.total for state in states]
        for one in range(last + 1):
            for other in range(one + 1):
                twin = states[last].twin()
                self.assertEqual(twin.undo(many=last - other), self.news(totals[last], totals[other]))
                self.assertEqual(twin, states[other])
                self.assertEqual(twin.redo(many=one - other), self.news(totals[other], totals[one]))
                self.assertEqual(twin, states[one])
                for at in range(one + 1):
                    back = twin.twin()
                    self.assertEqual(back.undo(many=one - at), self.news(totals[one], totals[at]))
                    self.assertEqual(back, states[at])
                left = last - one
                self.refused(NothingToUndo, twin.redo, many=left + 1, keeps=("many", left + 1))
                self.refused(NothingToUndo, twin.undo, many=one + 1, keeps=("many", one + 1))
                self.assertEqual(twin.redo(many=left), self.news(totals[one], totals[last]))
                self.assertEqual(twin, states[last])

    def news(self, before, after):
        return () if before == after else (before, after)

    def test_changes_that_leave_all_equal(self):
        bench = Bench(PATH, STORE)
        self.assertEqual((bench.ask("a", "c"), bench.shrink(), bench.reduce()), ((), (), ()))
        self.assertEqual(bench, Bench(PATH, STORE))
        self.assertEqual(bench.undo(many=3), ())
        self.refused(NothingToUndo, bench.undo, keeps=("many", 1))
        # Such a change ends what can be done again, too.
        bench.redo()
        bench.ask("a", "c")
        self.refused(NothingToUndo, bench.redo, keeps=("many", 1))
        self.assertEqual(bench.undo(many=2), ())

    def test_behind_another_change(self):
        bench = Bench(PATH, STORE)
        bench.put("s", (2, 6))
        bench.put("s", (2, 7))
        bench.undo()
        # A call that is refused changes nothing, not what can be done again either.
        self.refused(InvalidRow, bench.put, "s", (2, 6))
        self.refused(InvalidOperation, bench.demand, None)
        self.refused(Refused, bench.demand, ("least", 9), keeps=("pledge", ("least", 9)))
        self.refused(NothingToUndo, bench.redo, many=2, keeps=("many", 2))
        self.assertEqual(bench.redo(), (6, 7))
        bench.undo()
        bench.put("s", (2, 8))
        self.refused(NothingToUndo, bench.redo, keeps=("many", 1))
        self.assertEqual(bench.undo(many=2), (7, 5))

    def test_none_and_too_many(self):
        bench = Bench(PATH, STORE)
        bench.put("s", (2, 6))
        self.assertEqual((bench.undo(many=0), bench.redo(many=0), bench.total), ((), (), 6))
        for many in (2, 3, SIXTY):
            self.refused(NothingToUndo, bench.undo, many=many, keeps=("many", many))
            self.refused(NothingToUndo, bench.redo, many=many, keeps=("many", many))
        for value in VALUES:
            if value not in (0, 1, 2, SIXTY) or isinstance(value, bool):
                self.refused(InvalidNumber, bench.undo, many=value, keeps=("value", value))
                self.refused(InvalidNumber, bench.redo, many=value, keeps=("value", value))
        with self.assertRaises(TypeError):
            bench.undo(1)
        self.assertEqual(bench.undo(), (6, 5))

    def test_hundreds_of_changes(self):
        wide = Store({"r": 2, "s": 2, "t": 2}, {
            "r": tuple((at, at % 50) for at in range(1400)), "s": tuple((at % 50, at) for at in range(1400))})
        bench = Bench(PATH, wide)
        for at in range(150):
            bench.put("r", (9999, at))
        self.assertEqual(bench.total, 1400 * 28 + 50 * 28)
        self.assertEqual(bench.undo(many=150), (1400 * 28 + 50 * 28, 1400 * 28))
        self.assertEqual(bench.redo(many=10), (1400 * 28, 1400 * 28 + 10 * 28))


class TrialsTest(RefusingCase):

    def test_as_before(self):
        bench = Bench(PATH, STORE)
        bench.put("s", (2, 6))
        bench.demand(("tree",))
        bench.undo()
        with bench.trial() as same:
            self.assertTrue(same is bench)
            same.put("s", (2, 7))
            same.undo(many=2)
            same.demand(("plain",))
            self.assertEqual((bench.total, bench.pledges), (5, (("plain",),)))
        self.assertEqual((bench.total, bench.pledges, bench.store), (6, (), STORE.with_row("s", (2, 6))))
        self.assertEqual(list(bench), [*bench.question.lines, *bench.store.lines])
        self.assertEqual((bench.redo(), bench.pledges), ((), (("tree",),)))
        self.assertEqual(bench.undo(many=2), (6, 5))

    def test_an_error_goes_on(self):
        bench = Bench(PATH, STORE)
        with self.assertRaises(ZeroDivisionError):
            with bench.trial():
                bench.put("s", (2, 6))
                raise ZeroDivisionError
        self.assertEqual((bench.total, bench.store), (5, STORE))
        self.refused(NothingToUndo, bench.undo, keeps=("many", 1))

        def broken(same):
            same.take("r", (1, 2))
            same.take("r", (1, 2))

        self.refused(InvalidRow, bench.during, broken)
        self.assertEqual((bench.total, bench.store), (5, STORE))

    def test_as_it_is_when_it_is_entered(self):
        bench = Bench(PATH, STORE)
        trial = bench.trial()
        bench.put("s", (2, 6))
        with trial:
            bench.put("s", (2, 7))
        self.assertEqual(bench.total, 6)

    def test_trials_in_trials(self):
        bench = Bench(PATH, STORE)
        with bench.trial():
            bench.put("s", (2, 6))
            with bench.trial():
                bench.put("s", (2, 7))
                self.assertEqual(bench.total, 7)
            self.assertEqual(bench.total, 6)
            self.assertEqual(bench.undo(), (6, 5))
        self.assertEqual(bench.total, 5)
        self.refused(NothingToUndo, bench.redo, keeps=("many", 1))

    def test_during(self):
        bench = Bench(PATH, STORE)
        self.assertEqual(bench.during(lambda same: same.put("s", (2, 6))), (5, 6))
        self.assertEqual(bench.during(lambda same: (same.put("s", (2, 6)), same.total)), ((5, 6), 6))
        self.assertTrue(bench.during(lambda same: same is bench))
        self.assertIsNone(bench.during(lambda same: None))
        self.assertEqual(bench, Bench(PATH, STORE))
        kept = bench.during(lambda same: (same.put("s", (2, 6)), same.twin())[1])
        self.assertEqual((kept.total, bench.total, kept.undo()), (6, 5, (6, 5)))


class BenchesTest(RefusingCase):

    def test_twins(self):
        bench = Bench(PATH, STORE)
        bench.put("s", (2, 6))
        bench.demand(("tree",))
        bench.undo()
        twin = bench.twin()
        self.assertEqual(twin, bench)
        self.assertEqual((twin.redo(), twin.pledges, bench.pledges), ((), (("tree",),), ()))
        self.assertEqual(twin.undo(many=2), (6, 5))
        self.assertEqual((bench.total, bench.redo(), bench.pledges), (6, (), (("tree",),)))
        twin.ask("b")
        self.assertEqual((bench.question, twin.question), (PATH, PATH.asking("b")))

    def test_members(self):
        bench = Bench(PATH, STORE)
        bench.demand(("least", 5))
        for line in (*PATH.lines, *STORE.lines, ("least", 5)):
            self.assertIs(line in bench, True)
        for value in (*VALUES, "asked", "asked a", "clause r a c", "row r 1 4", "table r 2", "least 5", ("least", 4), ("tree",),
                      ["least", 5], PATH.clauses[0], "clause r a b\n", ("r", (1, 2))):
            self.assertIs(value in bench, value in ("clause r a b", "row r 1 2"))
        bench.put("t", (0, 0))
        self.assertIs("row t 0 0" in bench, True)
        bench.undo()
        self.assertIs("row t 0 0" in bench, False)

    def test_iteration_and_text(self):
        bench = Bench(PATH, STORE)
        self.assertEqual(list(bench), [*PATH.lines, *STORE.lines])
        self.assertEqual(str(bench), "bench of 2 clauses, 7 rows, 0 pledges")
        bench.demand(("tree",))
        self.assertEqual((str(bench), len(bench)), ("bench of 2 clauses, 7 rows, 1 pledges", 1))
        empty = Bench(asking("r a b"), Store({"r": 2, "s": 1}, {}))
        self.assertEqual(list(empty), ["clause r a b", "asked", "table r 2", "table s 1"])

    def test_equality(self):
        bench = Bench(PATH, STORE)
        for value in VALUES:
            self.assertIs(bench == value, False)
            self.assertIs(bench != value, True)
        self.assertNotEqual(bench, Bench(PATH.asking(), STORE))
        self.assertNotEqual(bench, Bench(PATH, STORE.without_table("t")))
        one, other = Bench(PATH, STORE), Bench(PATH, STORE)
        for pledge in (("tree",), ("plain",)):
            one.demand(pledge)
        for pledge in (("plain",), ("tree",)):
            other.demand(pledge)
        # The order of the pledges counts; what was changed ahead does not.
        self.assertNotEqual(one, other)
        one.undo(many=2)
        self.assertEqual(one, bench)

    def test_nothing_is_shared(self):
        bench = Bench(PATH, STORE)
        question, store, lines = bench.question, bench.store, list(bench)
        bench.put("s", (2, 6))
        bench.ask("b")
        self.assertEqual((question, store, lines), (PATH, STORE, [*PATH.lines, *STORE.lines]))


if __name__ == "__main__":
    unittest.main()
