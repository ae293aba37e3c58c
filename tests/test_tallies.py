"""Points 0.2, 0.23 and 16.4: the class of joinhouse.change.forests."""

import itertools
import random
import unittest

from joinhouse.base.questions import Question
from joinhouse.base.readings import count_of
from joinhouse.base.stores import Store
from joinhouse.change.forests import Tally, forest_of, is_open, open_forest, way_to
from joinhouse.errors import (
    InvalidForest,
    InvalidOperation,
    InvalidQuestion,
    InvalidRow,
    InvalidStore,
    TooMany,
    UnknownName,
)
from tests.brute import WIDTHS, all_answers, all_readings, asking, shape, some_question, some_shape, some_store, store_for
from tests.samples import PATH, RING, SIXTY, SIXTY_ONE, STORE, TWICE, VALUES, RefusingCase

FOREST = forest_of(PATH)
EMPTY = Store({"r": 2, "s": 2}, {})
SELF = asking("r x y", "r y x", "t x", "w x x y")


def all_numbers(question, forest, store):
    """A dict from pairs of a column and of values on its way to its numbers that are not 0, by point 16.4's words."""
    belows = {column: [below for below, above in forest if above == column] for column in question.columns}
    ways = {column: way_to(forest, column) for column in question.columns}
    feet = {column: [] for column in question.columns}
    for name, columns in question.clauses:
        foot = max(columns, key=lambda column: len(ways[column]))
        feet[foot].append((name, columns))
    domain = store.domain
    found = {}
    for column in sorted(question.columns, key=lambda column: -len(ways[column])):
        for values in itertools.product(domain, repeat=len(ways[column])):
            led = dict(zip(ways[column], values))
            number = 1
            for name, columns in feet[column]:
                number *= (name, tuple(led[one] for one in columns)) in store
            for below in belows[column]:
                number *= sum(found.get((below, (*values, value)), 0) for value in domain)
            if number:
                found[(column, values)] = number
    return found


def drawn(chance, at):
    """A question with a forest, and a store that fits it, by chance."""
    while True:
        if at % 2:
            question, store = some_question(chance, letters="abc", most=4), some_store(chance, most=4, values=3)
        else:
            question = some_shape(chance, letters="abcd", most=4)
            store = store_for(chance, question, most=4, values=2)
        if forest_of(question) is not None:
            return question, store


def some_change(chance, tally):
    """A put or a take by chance, as a triple."""
    store = tally.store
    table = chance.choice(sorted(store.tables))
    rows = store.rows(table)
    if rows and chance.random() < 0.45:
        return "take", table, chance.choice(rows)
    while True:
        row = tuple(chance.choices((store.domain or (0,)) if chance.random() < 0.8 else (0, 1, 7), k=store.tables[table]))
        if row not in rows:
            return "put", table, row
        if len(rows) >= 3:
            return "take", table, row


class ChangesTest(RefusingCase):

    def check(self, tally, question, forest, store):
        """Checks all that a tally tells against a search."""
        numbers = all_numbers(question, forest, store)
        readings = all_readings(question, store)
        self.assertEqual(tally.total, len(readings))
        self.assertEqual(tally.store, store)
        values = (*store.domain, 10 ** 5)
        for column in question.columns:
            length = len(way_to(forest, column))
            for some in itertools.product(values, repeat=length):
                self.assertEqual(tally.number_at(column, some), numbers.get((column, some), 0))
            for some in itertools.product(values, repeat=length - 1):
                self.assertEqual(tally.sum_at(column, some),
                                 sum(numbers.get((column, (*some, value)), 0) for value in values))
        self.check_counts(tally, question, forest, store)
        return numbers

    def check_counts(self, tally, question, forest, store):
        counted = all_answers(question, store)
        if is_open(question, forest):
            for some in itertools.product((*store.domain, 10 ** 5), repeat=len(question.asked)):
                self.assertEqual(tally.counted(some), counted.get(some, 0))
        else:
            self.refused(InvalidOperation, tally.counted, ())

    def test_against_searches(self):
        chance = random.Random(1)
        changed = opened = 0
        for at in range(40):
            question, store = drawn(chance, at)
            forest = open_forest(question) or forest_of(question)
            opened += is_open(question, forest)
            tally = Tally(question, forest, store)
            before = self.check(tally, question, forest, store)
            done = []
            for _ in range(6):
                word, name, row = some_change(chance, tally)
                store = store.with_row(name, row) if word == "put" else store.without_row(name, row)
                told = tally.put(name, row) if word == "put" else tally.take(name, row)
                done.append((word, name, row))
                after = self.check(tally, question, forest, store)
                keys = sorted(key for key in {**before, **after} if before.get(key, 0) != after.get(key, 0))
                self.assertEqual(told, tuple((*key, after.get(key, 0)) for key in keys))
                changed += len(told)
                before = after
                self.assertEqual(tally.changes, tuple(done))
                self.assertEqual(len(tally), len(done))
        self.assertGreater(changed, 100)
        self.assertTrue(5 < opened < 40)

    def test_at_most_one_number_of_each_column_for_each_clause(self):
        chance = random.Random(2)
        for at in range(40):
            question, store = drawn(chance, at)
            tally = Tally(question, forest_of(question), store)
            for _ in range(10):
                word, name, row = some_change(chance, tally)
                told = tally(word, name, row)
                clauses = [clause for clause in question.clauses if clause[0] == name]
                for column in question.columns:
                    self.assertLessEqual(len([one for one in told if one[0] == column]), len(clauses))
                if not clauses:
                    self.assertEqual(told, ())

    def test_tables_in_several_clauses(self):
        store = Store({"r": 2, "t": 1, "w": 3}, {"t": ((1,), (2,))})
        forest = (("x", None), ("y", "x"))
        tally = Tally(SELF, forest, store)
        self.assertEqual(tally.put("r", (1, 2)), ())
        self.assertEqual(tally.put("w", (1, 1, 2)), ())
        self.assertEqual(tally.put("r", (2, 1)), (("x", (1,), 1), ("y", (1, 2), 1)))
        self.assertEqual(tally.put("w", (2, 2, 1)), (("x", (2,), 1), ("y", (2, 1), 1)))
        self.assertEqual(tally.total, 2)
        # One row takes both away.
        self.assertEqual(tally.take("r", (1, 2)), (("x", (1,), 0), ("x", (2,), 0), ("y", (1, 2), 0), ("y", (2, 1), 0)))
        self.assertEqual(tally.put("r", (5, 5)), ())
        self.assertEqual(tally.put("w", (5, 5, 5)), (("y", (5, 5), 1),))
        self.assertEqual(tally.put("t", (5,)), (("x", (5,), 1),))
        # A row that does not agree with itself is there, and no clause reads it.
        self.assertEqual(tally.put("w", (5, 6, 5)), ())
        self.assertIs(("w", (5, 6, 5)) in tally, True)
        self.assertEqual(tally.total, 1)

    def test_tables_that_are_not_asked(self):
        tally = Tally(PATH, FOREST, STORE)
        self.assertEqual(tally.put("t", (7, 7)), ())
        self.assertEqual(tally.take("t", (4, 6)), ())
        self.assertEqual(tally.store.rows("t"), ((7, 7),))
        self.assertEqual(tally.changes, (("put", "t", (7, 7)), ("take", "t", (4, 6))))
        self.assertEqual(tally.total, 5)

    def test_great_numbers(self):
        star = shape("ab", "ac", "ad", "ae", "af", "ag", "ah", "a")
        rows = {name: tuple((0, at) for at in range(420)) for name in star.tables if name != "th"}
        store = Store(star.tables, {**rows, "th": ((0,),)})
        tally = Tally(star, forest_of(star), store)
        self.assertEqual(tally.total, 420 ** 7)
        self.assertEqual(tally.take("ta", (0, 5)), (("a", (0,), 419 * 420 ** 6), ("b", (0, 5), 0)))
        self.assertEqual((tally.total, tally.sum_at("a", ()), tally.sum_at("b", (0,))), (419 * 420 ** 6, 419 * 420 ** 6, 419))

    def test_thousands_of_changes(self):
        chance = random.Random(3)
        question = shape("ab", "abc", "ad", "e", "ef")
        store = Store(question.tables, {})
        tally = Tally(question, forest_of(question), store)
        here = []
        for _ in range(6000):
            if here and chance.random() < 0.4:
                name, row = here.pop(chance.randrange(len(here)))
                tally.take(name, row)
            else:
                name = chance.choice(sorted(question.tables))
                row = tuple(chance.choices(range(8), k=question.tables[name]))
                if (name, row) not in tally:
                    tally.put(name, row)
                    here.append((name, row))
        self.assertGreater(len(tally), 3000)
        self.assertEqual(sorted(here), list(tally.store))
        self.assertEqual(tally, self.same(tally))

    def same(self, tally):
        """The tally that has done the same changes, checked to tell the same."""
        other = Tally(tally.question, tally.forest, Store(tally.store.tables, {}))
        for word, name, row in tally.changes:
            other(word, name, row)
        self.assertEqual(other.total, Tally(tally.question, tally.forest, tally.store).total)
        return other


class TalliesTest(RefusingCase):

    def setUp(self):
        self.tally = Tally(PATH.asking("b", "a"), FOREST, STORE)

    def unchanged(self):
        self.assertEqual(self.tally, Tally(PATH.asking("b", "a"), FOREST, STORE))
        self.assertEqual((self.tally.total, self.tally.changes, len(self.tally), self.tally.store), (5, (), 0, STORE))

    def test_what_is_kept(self):
        tally = self.tally
        self.assertEqual((tally.question, tally.forest, tally.store), (PATH.asking("b", "a"), FOREST, STORE))
        self.assertEqual(str(tally), "tally of 3 columns, 5 readings")
        self.assertEqual(str(Tally(PATH, FOREST, EMPTY)), "tally of 3 columns, 0 readings")
        tally.put("s", (2, 6))
        self.assertEqual((str(tally), len(tally), tally.total), ("tally of 3 columns, 6 readings", 1, 6))
        self.assertEqual(tally.changes, (("put", "s", (2, 6)),))
        self.assertEqual(STORE.rows("s"), ((2, 5), (3, 5), (3, 6)))
        with self.assertRaises(TypeError):
            list(tally)

    def test_counted(self):
        tally = self.tally
        self.assertEqual((tally.counted((3, 1)), tally.counted((2, 1)), tally.counted((2, 4))), (2, 1, 0))
        for value in VALUES:
            self.assertEqual(tally.counted(value), 0)
        for value in ((3, True), [3, 1], (3,), (3, 1, 5), (-3, 1), (SIXTY_ONE, 1), (3, None), ((3,), 1), "31"):
            self.assertEqual(tally.counted(value), 0)
        none = Tally(PATH.asking(), FOREST, STORE)
        self.assertEqual((none.counted(()), none.counted((1,)), none.counted(None)), (5, 0, 0))
        shut = Tally(PATH, FOREST, STORE)
        for value in (*VALUES, (1, 5)):
            self.refused(InvalidOperation, shut.counted, value)
        whole = Tally(PATH.full, FOREST, STORE)
        self.assertEqual((whole.counted((1, 3, 6)), whole.counted((1, 3, 7))), (1, 0))
        for answer in all_answers(PATH.asking("b"), STORE):
            self.assertEqual(Tally(PATH.asking("b"), FOREST, STORE).counted(answer), count_of(PATH.asking("b"), STORE, answer))

    def test_twins(self):
        self.tally.put("s", (2, 6))
        twin = self.tally.twin()
        self.assertEqual(twin, self.tally)
        self.assertEqual((twin.changes, twin.total, str(twin)), (self.tally.changes, 6, str(self.tally)))
        twin.take("s", (2, 6))
        self.assertEqual((twin.total, self.tally.total, len(twin), len(self.tally)), (5, 6, 2, 1))
        self.tally.put("r", (9, 2))
        self.assertEqual((twin.total, self.tally.total), (5, 8))
        self.assertNotEqual(twin, self.tally)
        self.assertIs(("r", (9, 2)) in twin, False)

    def test_the_call_with_a_word(self):
        twin = self.tally.twin()
        self.assertEqual(self.tally("put", "s", (2, 6)), twin.put("s", (2, 6)))
        self.assertEqual(self.tally("take", "r", (4, 3)), twin.take("r", (4, 3)))
        self.assertEqual(self.tally, twin)
        for value in (*VALUES, "puts", "Put", "take ", ("put",), ["put"]):
            self.refused(InvalidOperation, self.tally, value, value, value)
            self.refused(InvalidOperation, self.tally, value, "s", (2, 7))
        self.refused(UnknownName, self.tally, "put", "x", (1, 2), keeps=("word", "x"))
        self.refused(InvalidRow, self.tally, "take", "s", (2, 7))
        self.assertEqual(self.tally, twin)

    def test_members(self):
        for pair in STORE:
            self.assertIs(pair in self.tally, True)
        for value in (*VALUES, (["r"], (1, 2)), ({}, (1, 2)), (("r",), (1, 2)), ("r", (1, 4)), ("r", (True, 2)), ["r", (1, 2)], ("r", (1, 2), 1), ("x", (1, 2)), ("r", (1,))):
            self.assertIs(value in self.tally, value in STORE)
        self.tally.take("r", (1, 2))
        self.assertIs(("r", (1, 2)) in self.tally, False)

    def test_equality(self):
        for value in VALUES:
            self.assertIs(self.tally == value, False)
            self.assertIs(self.tally != value, True)
        question = PATH.asking("b", "a")
        self.assertEqual(self.tally, Tally(question, FOREST, STORE))
        single = asking("r a b")
        for one, other in (
            (Tally(PATH, FOREST, STORE), Tally(question, FOREST, STORE)),
            (Tally(single, (("a", None), ("b", "a")), STORE), Tally(single, (("a", "b"), ("b", None)), STORE)),
            (self.tally, Tally(question, FOREST, STORE.without_table("t"))),
            (self.tally, Tally(question, FOREST, STORE.without_row("t", (4, 6)))),
            (Tally(question, FOREST, EMPTY.with_table("t", 1)), Tally(question, FOREST, EMPTY.with_table("t", 2))),
        ):
            self.assertNotEqual(one, other)
        # The same store by other changes is not the same.
        other = self.tally.twin()
        other.put("t", (1, 1))
        other.take("t", (1, 1))
        self.assertEqual(other.store, self.tally.store)
        self.assertNotEqual(other, self.tally)

    def test_wrong_tables_and_rows(self):
        tally = self.tally
        for value in (*VALUES, "x"):
            if value not in ("r",):
                for call in (tally.put, tally.take):
                    self.refused(UnknownName, call, value, value, keeps=("word", value))
        for value in (*VALUES, (1, 2, 3), (1,), [1, 4], (1, True), (1, -1), (1, SIXTY_ONE), (1, None), "14", (1, 2)):
            self.refused(InvalidRow, tally.put, "r", value)
            if value != (1, 2):
                self.refused(InvalidRow, tally.take, "r", value)
        self.refused(InvalidRow, tally.take, "r", (7, 7))
        self.refused(InvalidRow, tally.take, "s", (1, 2))
        self.unchanged()
        tally.put("r", (SIXTY, 0))
        tally.take("r", (SIXTY, 0))

    def test_too_many_rows(self):
        rows = tuple((at, 0) for at in range(2999))
        full = Tally(PATH, FOREST, Store({"r": 2, "s": 2, "t": 1}, {"r": rows}))
        full.put("s", (0, 1))
        before = full.twin()
        self.assertEqual((len(full.store), full.total), (3000, 2999))
        for name, row in (("s", (0, 2)), ("t", (1,)), ("r", (3000, 0))):
            self.refused(TooMany, full.put, name, row, keeps=("limit", 3000))
        self.refused(InvalidRow, full.put, "s", (0, 1))
        self.refused(InvalidRow, full.put, "s", (0,))
        self.refused(UnknownName, full.put, "x", (0,), keeps=("word", "x"))
        self.assertEqual(full, before)
        full.take("r", (5, 0))
        full.put("t", (1,))
        self.refused(TooMany, full.put, "r", (5, 0), keeps=("limit", 3000))
        self.assertEqual(full.total, 2998)

    def test_numbers_and_sums(self):
        tally = self.tally
        for value in (*VALUES, "d"):
            if value not in ("a",):
                for call in (tally.number_at, tally.sum_at):
                    self.refused(UnknownName, call, value, value, keeps=("word", value))
        for value in (*VALUES, (3,), (3, 1, 1), [3, 1], (3, True), (-3, 1), (3, SIXTY_ONE), (3, None)):
            if value != (1, 2):
                self.refused(InvalidOperation, tally.number_at, "a", value)
        for value in (*VALUES, (3, 1), [3], (True,), (-1,), (SIXTY_ONE,), (None,)):
            if value != (1,):
                self.refused(InvalidOperation, tally.sum_at, "a", value)
                self.refused(InvalidOperation, tally.number_at, "b", value)
            if value != ():
                self.refused(InvalidOperation, tally.sum_at, "b", value)
        self.assertEqual((tally.sum_at("b", ()), tally.sum_at("a", (3,)), tally.number_at("a", (3, 9))), (5, 2, 0))
        self.unchanged()

    def test_wrong_arguments(self):
        for value in VALUES:
            if not isinstance(value, Question):
                self.refused(InvalidQuestion, Tally, value, value, value)
            self.refused(InvalidForest, Tally, PATH, value, value)
            self.refused(InvalidForest, Tally, RING, value, value)
            if not isinstance(value, Store):
                self.refused(InvalidStore, Tally, PATH, FOREST, value)
        self.refused(InvalidForest, Tally, PATH, (("a", None), ("b", "a"), ("c", "b")), None)
        self.refused(InvalidStore, Tally, PATH, FOREST, STORE.without_table("s"))
        self.refused(InvalidStore, Tally, PATH, FOREST, Store({"r": 2, "s": 3}, {}))
        self.refused(InvalidForest, Tally, asking("r a b"), FOREST, STORE)
        self.assertEqual(Tally(TWICE, FOREST, STORE).total, 5)
        self.assertEqual(WIDTHS["r"], 2)


if __name__ == "__main__":
    unittest.main()
