"""Points 0.10, 0.11, 0.14 and the functions of joinhouse.base.readings."""

import inspect
import itertools
import random
import unittest

from joinhouse.base import readings
from joinhouse.base.questions import Question
from joinhouse.base.readings import (
    answers,
    count_of,
    count_readings,
    counts,
    each_reading,
    is_answered,
    is_reading,
    rows_read,
)
from joinhouse.base.stores import Store, fits, frozen, frozen_answer, spread_store
from joinhouse.errors import InvalidOperation, InvalidQuestion, InvalidReading, InvalidStore, TooMany
from tests.brute import all_answers, all_readings, asking, edges, shuffled, some_question, some_store, table
from tests.samples import PATH, RING, SIXTY, STORE, TWICE, VALUES, RefusingCase

KINDS = (
    PATH,
    TWICE,
    asking("r a a"),
    asking("r a a", "asked a"),
    asking("w a b a", "r b b", "asked b a"),
    asking("w a a a", "t a"),
    asking("r a b", "r b a", "asked b a"),
    asking("r a b", "r b c", "r c a", "asked c"),
    asking("r a b", "s c d", "asked d a"),
    asking("r z a", "s z a", "t z", "asked a z"),
    asking("t a", "t b", "t c", "asked c a b"),
    asking("w a b c", "w c b a", "asked c b a"),
    asking("r a d", "s b d", "r c d", "asked c b a"),
    asking("r a c", "s b d", "r c d", "asked"),
    asking("w a c e", "w b d e", "asked e"),
)

PLAIN_CALLS = (each_reading, count_readings, answers, counts, is_answered)
JUDGES = (is_reading, count_of, rows_read)


def first(many, found):
    """The first so many of a generator."""
    return list(itertools.islice(found, many))


def line_of(length):
    """The question of a line of clauses e(a b) e(b c) .."""
    return edges(*["abcdefgh"[at:at + 2] for at in range(length)])


class AgainstAllTuplesTest(RefusingCase):

    def check(self, question, store):
        right = all_readings(question, store)
        self.assertEqual(list(each_reading(question, store)), right)
        told = all_answers(question, store)
        self.assertEqual(counts(question, store), told)
        self.assertEqual(list(counts(question, store)), list(told))
        self.assertEqual(answers(question, store), tuple(told))
        self.assertEqual(count_readings(question, store), len(right))
        self.assertIs(is_answered(question, store), bool(right))
        return right

    def test_each_kind(self):
        chance = random.Random(1)
        for question in KINDS:
            for _ in range(12):
                self.check(question, some_store(chance, values=3 if len(question.columns) > 4 else 4))
            self.check(question, Store({"r": 2, "s": 2, "t": 1, "w": 3}, {}))

    def test_by_chance(self):
        chance = random.Random(2)
        found = 0
        for _ in range(500):
            question = some_question(chance, letters="abcd", most=4)
            found += len(self.check(question, some_store(chance, most=8, values=3))) > 1
        self.assertGreater(found, 100)

    def test_the_judges(self):
        chance = random.Random(3)
        for _ in range(60):
            question = some_question(chance, most=3)
            store = some_store(chance, most=8, values=3)
            right = all_readings(question, store)
            told = all_answers(question, store)
            for length in range(4):
                for values in itertools.product((*store.domain, 99), repeat=length):
                    self.assertIs(is_reading(question, store, values), values in right)
                    self.assertEqual(count_of(question, store, values), told.get(values, 0))
                    if values not in right:
                        self.refused(InvalidReading, rows_read, question, store, values)
            for reading in right:
                led = dict(zip(question.columns, reading))
                rows = tuple(tuple(led[column] for column in columns) for _, columns in question.clauses)
                self.assertEqual(rows_read(question, store, reading), rows)

    def test_values_of_every_kind(self):
        store = Store({"r": 2, "s": 2}, {"r": ((1, 1), (0, 1), (1, 2)), "s": ((1, 1), (1, 0), (2, SIXTY))})
        for question in (PATH, PATH.asking("a", "b", "c")):
            for value in VALUES + (
                (True, 1, 1), (1, True, 1), (1, 1, True), (False, 1, 1), (1, 1, 1, 1), (1, 1), [1, 1, 1], (1, 1, None),
                (1, 1, "1"), (1, 1, (1,)), (1, 1, [1]), (1, 2, SIXTY + 1), {1: 1}, ((1, 1, 1),), "111",
            ):
                self.assertIs(is_reading(question, store, value), False, value)
                self.refused(InvalidReading, rows_read, question, store, value)
                if question.asked != ("a", "c") or value not in ((1, 1), (1, 0)):
                    self.assertEqual(count_of(question, store, value), 0)
            self.assertIs(is_reading(question, store, (1, 2, SIXTY)), True)
            self.assertEqual(rows_read(question, store, (1, 2, SIXTY)), ((1, 2), (2, SIXTY)))
        self.assertEqual(count_of(PATH, store, (1, 1)), 1)
        self.assertEqual(count_of(PATH, store, (True, 1)), 0)
        self.assertEqual(count_of(PATH, store, (1, True)), 0)
        self.assertEqual(count_of(PATH, store, (1, False)), 0)
        self.assertEqual(count_of(PATH, store, [1, 1]), 0)
        self.assertEqual(count_of(RING, STORE, ()), 1)
        self.assertEqual(count_of(RING, STORE, None), 0)
        self.assertEqual(count_of(RING, STORE, []), 0)

    def test_asked_columns(self):
        store = table("r", (1, 2), (1, 3), (4, 3))
        one = asking("r b a")
        self.assertEqual(list(each_reading(one, store)), [(2, 1), (3, 1), (3, 4)])
        self.assertEqual(counts(one, store), {(): 3})
        self.assertEqual(answers(one, store), ((),))
        self.assertEqual(counts(one.asking("b", "a"), store), {(1, 2): 1, (1, 3): 1, (4, 3): 1})
        self.assertEqual(answers(one.asking("a", "b"), store), ((2, 1), (3, 1), (3, 4)))
        self.assertEqual(counts(one.asking("b"), store), {(1,): 2, (4,): 1})
        none = Store({"r": 2}, {})
        self.assertEqual((counts(one, none), answers(one, none), list(each_reading(one, none))), ({}, (), []))
        self.assertEqual((is_answered(one, none), count_of(one, none, ()), count_readings(one, none)), (False, 0, 0))

    def test_rows_in_the_order_of_the_clauses(self):
        one = asking("s c a", "r b c", "r a b", "r a a")
        store = Store({"r": 2, "s": 2}, {"r": ((1, 1), (1, 2), (2, 3)), "s": ((3, 1),)})
        self.assertEqual(rows_read(one, store, (1, 2, 3)), ((1, 1), (1, 2), (2, 3), (3, 1)))

    def test_returned_dicts_are_the_callers(self):
        counts(PATH, STORE).clear()
        self.assertEqual(counts(PATH, STORE), {(1, 5): 2, (1, 6): 1, (4, 5): 1, (4, 6): 1})


class GoingAlongTest(RefusingCase):
    """Readings, answers and counts go along with other names, other values, sums, products and parts."""

    def setUp(self):
        self.chance = random.Random(4)

    def pairs(self, many):
        for _ in range(many):
            yield some_question(self.chance, most=3), some_store(self.chance, most=6, values=3, great=99)

    def test_frozen_answers(self):
        for question, _ in self.pairs(100):
            store = frozen(question)
            self.assertTrue(fits(store, question))
            self.assertIs(is_reading(question, store, tuple(range(len(question.columns)))), True)
            self.assertIn(frozen_answer(question), answers(question, store))
            self.assertGreater(count_of(question, store, frozen_answer(question)), 0)

    def test_spread_stores(self):
        for question, store in self.pairs(100):
            other = spread_store(question, store)
            self.assertEqual(list(each_reading(question.spread, other)), list(each_reading(question, store)))
            self.assertEqual(counts(question.spread, other), counts(question, store))

    def test_other_columns_and_tables(self):
        for question, store in self.pairs(60):
            names = dict(zip(question.columns, self.chance.sample("abcdxyz", len(question.columns))))
            other = question.renamed(names)
            led = {frozenset(zip((names[c] for c in question.columns), r)) for r in each_reading(question, store)}
            self.assertEqual({frozenset(zip(other.columns, r)) for r in each_reading(other, store)}, led)
            self.assertEqual(counts(other, store), counts(question, store))
            tables = {"r": "s", "s": "r", "t": "w", "w": "t"}
            moved = Store({tables[t]: w for t, w in store.tables.items()},
                          {tables[t]: store.rows(t) for t in store.tables})
            other = question.retabled({t: tables[t] for t in question.tables})
            self.assertEqual(list(each_reading(other, moved)), list(each_reading(question, store)))

    def test_other_values(self):
        for question, store in self.pairs(60):
            others = dict(zip(store.domain, self.chance.sample(range(20), len(store.domain))))
            led = sorted(tuple(others[value] for value in reading) for reading in each_reading(question, store))
            self.assertEqual(list(each_reading(question, store.renamed(others))), led)
            folded = {value: at % 2 for at, value in enumerate(store.domain)}
            for reading in each_reading(question, store):
                self.assertTrue(is_reading(question, store.folded(folded), tuple(folded[value] for value in reading)))

    def test_sums_products_and_parts(self):
        for question, store in self.pairs(60):
            other = some_store(self.chance, most=5, values=2, great=99)
            many = count_readings(question, store) * count_readings(question, other)
            self.assertEqual(count_readings(question, store * other), many)
            both = list(each_reading(question, store + other))
            for reading in (*each_reading(question, store), *each_reading(question, other)):
                self.assertIn(reading, both)
            self.assertTrue(set(each_reading(question, store)) <= set(both))
            self.assertTrue(set(answers(question, store)) <= set(answers(question, store + other)))

    def test_folded_questions(self):
        for question, store in self.pairs(60):
            names = {column: "a" if column < "c" else "c" for column in question.columns}
            folded = question.folded(names)
            same = [reading for reading in each_reading(question, store)
                    if len({(names[c], v) for c, v in zip(question.columns, reading)}) == len(folded.columns)]
            self.assertEqual(len(same), count_readings(folded, store))


class LimitsTest(RefusingCase):
    """20000 readings can be listed, 20001 can not."""

    def setUp(self):
        self.unary = asking("t a", "u b", "v c", "asked b")
        self.full = self.store(200, 100, 1)
        self.beyond = self.store(3, 59, 113)

    def store(self, *sizes):
        return Store({"t": 1, "u": 1, "v": 1},
                     {name: tuple((number,) for number in range(many)) for name, many in zip("tuv", sizes)})

    def test_constant(self):
        self.assertEqual(readings.MAX_LISTED, 20000)

    def test_just_so_many(self):
        self.assertEqual(count_readings(self.unary, self.full), 20000)
        self.assertEqual(counts(self.unary, self.full), {(number,): 200 for number in range(100)})
        self.assertEqual(answers(self.unary, self.full), tuple((number,) for number in range(100)))
        self.assertEqual(count_of(self.unary, self.full, (7,)), 200)
        self.assertEqual(count_of(self.unary, self.full, None), 0)
        self.assertEqual(len(list(each_reading(self.unary, self.full))), 20000)

    def test_one_more(self):
        for call in (count_readings, counts, answers):
            self.refused(TooMany, call, self.unary, self.beyond, keeps=("limit", 20000))
        for value in (*VALUES, (7,), (58,), (59,)):
            self.refused(TooMany, count_of, self.unary, self.beyond, value, keeps=("limit", 20000))

    def test_no_limit(self):
        found = list(each_reading(self.unary, self.beyond))
        self.assertEqual((len(found), found[0], found[-1]), (20001, (0, 0, 0), (2, 58, 112)))
        self.assertIs(is_answered(self.unary, self.beyond), True)
        self.assertIs(is_reading(self.unary, self.beyond, (2, 58, 112)), True)
        self.assertIs(is_reading(self.unary, self.beyond, (2, 59, 112)), False)
        self.assertEqual(rows_read(self.unary, self.beyond, (2, 58, 112)), ((2,), (58,), (112,)))

    def test_without_listing_millions(self):
        eight = Question(tuple(("t", (letter,)) for letter in "abcdefgh"), ())
        store = Store({"t": 1}, {"t": tuple((number,) for number in range(3000))})
        self.assertEqual(first(2, each_reading(eight, store)), [(0,) * 8, (0,) * 7 + (1,)])
        for call in (count_readings, counts, answers):
            self.refused(TooMany, call, eight, store, keeps=("limit", 20000))
        self.assertIs(is_answered(eight, store), True)
        self.assertIs(is_reading(eight, store, (2999,) * 8), True)
        complete = Store({"e": 2}, {"e": tuple(itertools.product(range(54), repeat=2))})
        ring = edges("ab", "bc", "cd", "de", "ef", "fg", "gh", "ha")
        mixed = edges("ae", "eb", "bf", "fc", "cg", "gd", "dh", "ha")
        for question in (ring, mixed, line_of(7)):
            self.assertEqual(first(1, each_reading(question, complete)), [(0,) * 8])
            self.refused(TooMany, count_readings, question, complete, keeps=("limit", 20000))


class LargeStoresTest(RefusingCase):
    """Where most of what could be tried leads to nothing."""

    def check_none(self, question, store):
        self.assertEqual(list(each_reading(question, store)), [])
        self.assertIs(is_answered(question, store), False)
        self.assertEqual(count_readings(question, store), 0)

    def test_rings_that_never_close(self):
        rows = [(p * 31 + x, (p + 1) % 3 * 31 + y) for p in range(3) for x in range(31) for y in range(31)]
        parts = table("e", *rows)
        ascending = table("e", *itertools.combinations(range(77), 2))
        for question in (edges("ab", "bc", "cd", "de", "ef", "fg", "gh", "ha"),
                         edges("ae", "eb", "bf", "fc", "cg", "gd", "dh", "ha")):
            self.check_none(question, parts)
            self.check_none(question, ascending)

    def test_lines_with_a_last_clause_without_a_row(self):
        rows = tuple(itertools.product(range(54), repeat=2))
        store = Store({"e": 2, "t": 1}, {"e": rows, "t": ((54,),)})
        self.check_none(line_of(7) + asking("t h"), store)
        self.check_none(line_of(7) + asking("t a"), store)
        self.check_none(line_of(7) + asking("t d"), store)

    def test_columns_that_meet_late(self):
        store = table("e", *[(number, number) for number in range(3000)])
        star = edges("ah", "bh", "ch", "dh", "eh", "fh", "gh")
        self.assertEqual(list(each_reading(star, store)), [(number,) * 8 for number in range(3000)])
        self.assertEqual(count_readings(edges("ae", "eb", "bf", "fc", "cg", "gd", "dh"), store), 3000)

    def test_a_hub(self):
        rows = [(0, number) for number in range(1, 1500)]
        store = table("e", *rows, *[(y, x) for x, y in rows])
        ring = edges("ab", "bc", "cd", "de", "ef", "fg", "gh", "ha")
        self.assertEqual(first(2, each_reading(ring, store)), [(0, 1, 0, 1, 0, 1, 0, 1), (0, 1, 0, 1, 0, 1, 0, 2)])
        self.refused(TooMany, count_readings, ring, store)
        self.check_none(edges("ab", "bc", "ca"), store)

    def test_wide_rows(self):
        chance = random.Random(5)
        rows = {tuple(chance.choices(range(4), k=8)) for _ in range(2500)}
        store = table("w", *rows)
        clauses = ["w " + " ".join(letters) for letters in
                   ("abcdefgh", "bacdefgh", "abdcefgh", "abcdfegh", "abcdefhg", "hgfedcba", "cbadefgh", "acbdefgh")]
        question = asking(*clauses, "asked h a")
        right = sorted(row for row in rows if all(
            tuple(row["abcdefgh".index(letter)] for letter in names) in rows
            for names in [columns for _, columns in question.clauses]))
        self.assertEqual(list(each_reading(question, store)), right)
        self.assertEqual(len(right), count_readings(question, store))


class RefusedCallsTest(RefusingCase):

    def call(self, function, question, store):
        """Calls a function, and asks a generator for its first result."""
        if function in JUDGES:
            return function(question, store, (1, 2, 5))
        found = function(question, store)
        return next(found) if function is each_reading else found

    def test_questions_and_stores(self):
        for function in (*PLAIN_CALLS, *JUDGES):
            for value in VALUES:
                if not isinstance(value, Question):
                    self.refused(InvalidQuestion, self.call, function, value, STORE)
                    self.refused(InvalidQuestion, self.call, function, value, value)
                    self.refused(InvalidQuestion, self.call, function, value, None)
                if not isinstance(value, Store):
                    self.refused(InvalidStore, self.call, function, PATH, value)

    def test_stores_that_do_not_fit(self):
        for store in (Store({"r": 2}, {}), Store({"r": 2, "s": 3}, {}), Store({"r": 1, "s": 2}, {}),
                      STORE.without_table("s")):
            for function in (*PLAIN_CALLS, *JUDGES):
                self.refused(InvalidOperation, self.call, function, PATH, store)
            for value in VALUES:
                self.refused(InvalidOperation, is_reading, PATH, store, value)
                self.refused(InvalidOperation, count_of, PATH, store, value)
                self.refused(InvalidOperation, rows_read, PATH, store, value)

    def test_generators_wait(self):
        for question, store in ((None, STORE), (PATH, None), (RING, STORE.without_table("t"))):
            found = each_reading(question, store)
            self.assertTrue(inspect.isgenerator(found))
            with self.assertRaises(ValueError):
                next(found)

    def test_fit_comes_ahead_of_the_limit(self):
        many = tuple((number,) for number in range(1500))
        store = Store({"t": 1, "u": 1}, {"t": many, "u": many})
        self.refused(TooMany, count_readings, asking("t a", "u b"), store)
        self.refused(InvalidOperation, count_readings, asking("t a", "u b", "v c"), store)


if __name__ == "__main__":
    unittest.main()
