"""Points 11.4, 11.5 and the functions of joinhouse.size.bounds on stores."""

import itertools
import math
import random
import unittest
from fractions import Fraction

from joinhouse.base.questions import Question
from joinhouse.base.readings import answers, count_readings
from joinhouse.base.stores import Store
from joinhouse.errors import (
    InvalidKeys,
    InvalidNumber,
    InvalidOperation,
    InvalidQuestion,
    InvalidSizes,
    InvalidStore,
    InvalidWeights,
    TooMany,
)
from joinhouse.size.bounds import (
    count_worst,
    greatest_filling,
    keeps_keys,
    least_covering,
    let_by,
    size_bound,
    worst_store,
)
from tests.brute import all_answers, ring_of, shape, some_shape, store_for
from tests.samples import PATH, RING, STORE, TWICE, VALUES, RefusingCase
from tests.test_bounds import COLUMNS, HALVES, ONE, TWO, fills, ones, some_sizes, worth
from tests.test_sizes import decided_by_search, reached_by_search, some_keys

BOTH = (("a", (1, 2)), ("c", (1, 2)))
WORST = (worst_store, count_worst)


def plain_store(question, *many):
    """A store with so many rows in the tables of a question, all values of a row equal."""
    rows = {table: tuple((at,) * question.tables[table] for at in range(number))
            for table, number in zip(question.tables, many)}
    return Store(question.tables, rows)


def worst_by_words(question, sizes, keys, weights, number):
    """The worst store, as point 11.5 tells it."""
    common = math.lcm(1, *[weight[1] for _, weight in weights], *[size[1] for size in sizes.values()])
    values = {column: number ** int(common * Fraction(*weight)) for column, weight in weights}
    decided, reached = decided_by_search(question, keys), reached_by_search(question, keys)
    rows = {}
    for table, columns in question.clauses:
        found = set()
        some = [column for column in values if column in reached[table]]
        for colours in itertools.product(*[range(values[column]) for column in some]):
            colour = dict(zip(some, colours))
            row = []
            for column in columns:
                told = 0
                for other in sorted(values):
                    if other in decided[column]:
                        told = told * values[other] + colour[other]
                row.append(told)
            found.add(tuple(row))
        rows[table] = tuple(sorted(found))
    return Store(question.tables, rows), common


class LetByTest(RefusingCase):

    def test_just_the_greatest_number(self):
        chance = random.Random(1)
        for _ in range(150):
            question = some_shape(chance, letters="abcd", most=4)
            keys = some_keys(chance, question)
            covering = least_covering(question, some_sizes(chance, question), keys)
            many = [chance.choice((1, 2, 3, 7, 30, 500)) for _ in question.tables]
            store = plain_store(question, *many)
            most = let_by(question, keys, covering, store)
            common = math.lcm(1, *[weight[1] for _, weight in covering])
            numbers = dict(zip(question.tables, many))
            whole = math.prod(numbers[table] ** (common * p // q) for table, (p, q) in covering)
            self.assertTrue(most ** common <= whole < (most + 1) ** common)

    def test_great_numbers(self):
        eight = shape("ab", "bc", "cd", "de", "ef", "fg", "gh", "ha", asked="abcdefgh")
        weights = tuple((table, (59, 60)) for table in eight.tables)
        store = plain_store(eight, *[375] * 8)
        most = let_by(eight, (), weights, store)
        self.assertTrue(most ** 60 <= 375 ** (8 * 59) < (most + 1) ** 60)
        whole = tuple((table, (1, 1)) for table in eight.tables)
        self.assertEqual(let_by(eight, (), whole, store), 375 ** 8)
        self.assertEqual(let_by(eight, (), whole, plain_store(eight, 1, 2, 1, 1, 1, 1, 1, 3)), 6)

    def test_few_rows(self):
        self.assertEqual(let_by(RING.full, (), HALVES, plain_store(RING, 4, 0, 7)), 0)
        self.assertEqual(let_by(RING.full, (), HALVES, plain_store(RING, 1, 1, 1)), 1)
        self.assertEqual(let_by(RING.full, (), HALVES, plain_store(RING, 2, 2, 2)), 2)
        self.assertEqual(let_by(RING.full, (), HALVES, plain_store(RING, 10, 10, 10)), 31)
        self.assertEqual(let_by(RING.full, (), (("r", (1, 1)), ("s", (1, 1))), plain_store(RING, 5, 7, 0)), 35)
        self.assertEqual(let_by(RING, (), (), plain_store(RING, 0, 0, 0)), 1)
        self.assertEqual(let_by(RING, (), (("t", (1, 3)),), STORE), 1)

    def test_rows_that_break_keys(self):
        keys = (("s", 0, 1),)
        self.assertIs(keeps_keys(STORE, keys), False)
        self.assertEqual(let_by(PATH, keys, (("r", (1, 1)),), STORE), 3)

    def test_answers_are_let(self):
        chance = random.Random(2)
        kept = 0
        for _ in range(600):
            question = some_shape(chance, letters="abcd", most=3)
            store = store_for(chance, question, most=4, values=3)
            keys = some_keys(chance, question, most=2)
            if keeps_keys(store, keys):
                kept += bool(keys)
                covering = least_covering(question, some_sizes(chance, question), keys)
                self.assertLessEqual(len(all_answers(question, store)), let_by(question, keys, covering, store))
        self.assertGreater(kept, 25)

    def test_wrong_arguments(self):
        ring = RING.full
        for value in VALUES:
            if not isinstance(value, Question):
                self.refused(InvalidQuestion, let_by, value, None, None, None)
            self.refused(InvalidOperation, let_by, TWICE, value, value, value)
            if value != ():
                self.refused(InvalidKeys, let_by, ring, value, value, value)
            if not isinstance(value, Store):
                self.refused(InvalidStore, let_by, ring, (), HALVES, value)
                self.refused(InvalidStore, let_by, ring, (), value, value)
            self.refused(InvalidWeights, let_by, ring, (), value, STORE)
            self.refused(InvalidWeights, let_by, ring, (), value, STORE.without_table("t"))
        less = STORE.without_table("t")
        self.refused(InvalidStore, let_by, ring, (), HALVES, less)
        self.refused(InvalidWeights, let_by, ring, (), HALVES[:2], less)
        for value in ((("r", (2, 1)), *HALVES[1:]), (("r", (3, 2)), *HALVES[1:]), (("r", (31, 61)), *HALVES[1:]),
                      (("r", (2, 3)), ("s", (3, 4)), ("t", (4, 7))), COLUMNS):
            self.refused(InvalidWeights, let_by, ring, (), value, STORE)
        for value in ((("r", (1, 1)), *HALVES[1:]), (("r", (31, 60)), *HALVES[1:]),
                      (("r", (2, 3)), ("s", (3, 4)), ("t", (4, 5)))):
            self.assertGreaterEqual(let_by(ring, (), value, STORE), 1)
        self.refused(InvalidWeights, let_by, ring, (), (("r", (31, 61)), ("s", (1, 1)), ("t", (1, 1))), STORE)


class WorstStoresTest(RefusingCase):

    def check(self, question, sizes, keys, weights, number):
        right, common = worst_by_words(question, sizes, keys, weights, number)
        store = worst_store(question, sizes, keys, weights, number)
        self.assertEqual((store, store.tables), (right, question.tables))
        self.assertIs(keeps_keys(store, keys), True)
        for table in question.tables:
            self.assertLessEqual(len(store.rows(table)), number ** (common * Fraction(*sizes[table])))
        many = count_worst(question, sizes, keys, weights, number)
        self.assertEqual(many, number ** int(common * worth(weights)))
        if many <= 2000:
            self.assertEqual(len(answers(question, store)), many)
            covering = least_covering(question, sizes, keys)
            self.assertLessEqual(many, let_by(question, keys, covering, store))
            if Fraction(*size_bound(question, sizes, keys)) == worth(weights):
                self.assertEqual(number ** int(common * worth(weights)), many)
        return many

    def test_by_chance(self):
        chance = random.Random(3)
        seen = 0
        for _ in range(300):
            question = some_shape(chance, letters="abcd", most=4)
            sizes = some_sizes(chance, question, most=4)
            keys = some_keys(chance, question)
            number = chance.choice((1, 2, 2, 3))
            weights = greatest_filling(question, sizes, keys)
            if chance.random() < 0.3:
                weights = tuple(pair for pair in weights if chance.random() < 0.6)
                self.assertTrue(fills(question, sizes, keys, weights))
            common = math.lcm(1, *[w[1] for _, w in weights], *[s[1] for s in sizes.values()])
            reached = reached_by_search(question, keys)
            rows = sum(number ** int(common * sum(Fraction(*w) for c, w in weights if c in reached[table]))
                       for table in question.tables)
            if rows <= 3000:
                seen += self.check(question, sizes, keys, weights, number) > 1
            else:
                self.refused(TooMany, worst_store, question, sizes, keys, weights, number, keeps=("limit", 3000))
        self.assertGreater(seen, 60)

    def test_the_bound_is_reached(self):
        for question, sizes, keys, number in (
            (RING.full, ONE, (), 5), (PATH, TWO, (), 40), (PATH, TWO, (("s", 0, 1),), 50),
            (ring_of("abcd").full, ones(ring_of("abcd"), (1, 2)), (), 6), (PATH, {"r": (3, 2), "s": (1, 2)}, (), 7),
            (shape("ab", "bc", "cd", asked="abcd"), ones(shape("ab", "bc", "cd"), (1, 1)), (("tb", 1, 0),), 9),
        ):
            filling = greatest_filling(question, sizes, keys)
            many = self.check(question, sizes, keys, filling, number)
            common = math.lcm(*[w[1] for _, w in filling], *[s[1] for s in sizes.values()])
            bound = Fraction(*size_bound(question, sizes, keys))
            self.assertEqual(many, number ** int(common * bound))

    def test_columns_that_bear_two_colours(self):
        store = worst_store(PATH, TWO, (("s", 0, 1),), BOTH, 2)
        self.assertEqual(store.lines, ('row r 0 0', 'row r 0 1', 'row r 1 0', 'row r 1 1', 'row s 0 0', 'row s 1 1'))
        three = shape("ab", "bc", "bd", asked="abcd")
        sizes = ones(three, (3, 1))
        keys = (("tb", 0, 1), ("tc", 0, 1))
        weights = (("b", (1, 1)), ("c", (1, 1)), ("d", (1, 1)))
        self.check(three, sizes, keys, weights, 3)
        self.assertIn(("ta", (0, 26)), worst_store(three, sizes, keys, weights, 3))

    def test_one_value(self):
        self.assertEqual(worst_store(RING, ONE, (), (), 1000).lines, ('row r 0 0', 'row s 0 0', 'row t 0 0'))
        self.assertEqual(worst_store(RING.full, ONE, (), COLUMNS, 1).lines, ('row r 0 0', 'row s 0 0', 'row t 0 0'))
        self.assertEqual((count_worst(RING, ONE, (), (), 1000), count_worst(RING.full, ONE, (), COLUMNS, 1)), (1, 1))

    def test_just_so_many_rows(self):
        loose = shape("a", "b", "c", "d", asked="abc")
        sizes = {**ones(loose), "td": (0, 1)}
        full = (("a", (1, 1)), ("b", (1, 1)), ("c", (1, 1)))
        self.assertEqual(len(worst_store(loose, sizes, (), full[:2], 1000)), 2002)
        self.refused(TooMany, worst_store, loose, sizes, (), full, 1000, keeps=("limit", 3000))
        self.assertEqual(count_worst(loose, sizes, (), full, 1000), 10 ** 9)
        three = shape("a", "b", "c", asked="abc")
        self.assertEqual(len(worst_store(three, ones(three), (), full, 1000)), 3000)
        self.assertEqual(count_readings(three, worst_store(three, ones(three), (), full, 20)), 8000)
        wide = shape("a", asked="a")
        nine = (("a", (9, 1)),)
        self.assertEqual(len(worst_store(wide, ones(wide, (9, 1)), (), nine, 2)), 512)
        self.refused(TooMany, worst_store, wide, ones(wide, (9, 1)), (), nine, 3, keeps=("limit", 3000))

    def test_great_numbers(self):
        eight = shape(*"abcdefgh", asked="abcdefgh")
        weights = tuple((column, (8 * 120 + 119, 120)) for column in "abcdefgh")
        self.assertEqual(count_worst(eight, ones(eight, (9, 1)), (), weights, 1000), 1000 ** (8 * 1079))
        self.refused(TooMany, worst_store, eight, ones(eight, (9, 1)), (), weights, 1000, keeps=("limit", 3000))

    def test_denominators(self):
        ring = RING.full
        for weights, sizes, right in (
            ((("a", (1, 120)),), ONE, True), ((("a", (1, 121)),), ONE, False), ((("a", (1, 60)),), {**ONE, "r": (1, 2)}, True),
            ((("a", (1, 61)),), {**ONE, "r": (1, 2)}, False), ((("a", (1, 8)), ("b", (1, 15))), ONE, True),
            ((("a", (1, 16)), ("b", (1, 15))), ONE, False), ((("a", (1, 119)),), ONE, True),
            ((("a", (1, 119)),), {**ONE, "t": (3, 2)}, False),
        ):
            for function in WORST:
                if right:
                    function(ring, sizes, (), weights, 1)
                else:
                    self.refused(InvalidWeights, function, ring, sizes, (), weights, 1)
                    self.refused(InvalidWeights, function, ring, sizes, (), weights, None)

    def test_wrong_arguments(self):
        ring = RING.full
        for function in WORST:
            for value in VALUES:
                if not isinstance(value, Question):
                    self.refused(InvalidQuestion, function, value, None, None, None, None)
                self.refused(InvalidOperation, function, TWICE, value, value, value, value)
                self.refused(InvalidSizes, function, ring, value, value, value, value)
                if value != ():
                    self.refused(InvalidKeys, function, ring, ONE, value, value, value)
                    self.refused(InvalidWeights, function, ring, ONE, (), value, value)
                if value.__class__ is not int or not 1 <= value <= 1000:
                    self.refused(InvalidNumber, function, ring, ONE, (), COLUMNS, value, keeps=("value", value))
            for value in (0, 1001, -1, True):
                self.refused(InvalidNumber, function, ring, ONE, (), COLUMNS, value, keeps=("value", value))
            self.refused(InvalidWeights, function, ring, ONE, (), HALVES, 1)
            self.refused(InvalidWeights, function, ring, ONE, (), (("a", (2, 3)), ("b", (1, 2))), 0)
        self.assertEqual(count_worst(ring, ONE, (), COLUMNS, 1000), 1000 ** 3)
        self.refused(TooMany, worst_store, ring, ONE, (), COLUMNS, 1000, keeps=("limit", 3000))
        self.assertEqual(len(worst_store(ring, ONE, (), COLUMNS, 31)), 3 * 961)


if __name__ == "__main__":
    unittest.main()
