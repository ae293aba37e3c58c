"""joinhouse.base.search and joinhouse.base.plans: what is found does not depend on how it is looked for."""

import itertools
import random
import unittest
from unittest.mock import patch

from joinhouse.base import plans, search
from joinhouse.base.choices import all_chosen, all_numbered, all_parted
from joinhouse.base.search import Search, count_found, each_found, each_found_part, found_until, is_found
from tests.brute import all_readings, some_question, some_store

# How few tuples need no plan, how much is kept, and from how many values on fewer ones are looked for.
WAYS = ((1000, 1000000, 10, 4), (0, 1000000, 10, 4), (0, 0, 0, 1), (1000, 3, 0, 2), (0, 20, 1, 1), (5, 1, 2, 2))


class SearchTest(unittest.TestCase):

    def check(self, question, store, right, chance):
        rows = {name: store.rows(name) for name in question.tables}
        self.assertEqual(list(each_found(question, rows, {})), right)
        self.assertEqual(sorted(found_until(question, rows, 10 ** 9)), right)
        self.assertEqual(len(found_until(question, rows, 3)), min(3, len(right)))
        self.assertEqual(count_found(question, rows, {}), len(right))
        self.assertIs(is_found(question, rows, {}), bool(right))
        columns = chance.sample(question.columns, chance.randint(0, len(question.columns)))
        given = {column: chance.choice(store.domain) for column in columns} if store.domain else {}
        if right and chance.random() < 0.5:
            led = dict(zip(question.columns, chance.choice(right)))
            given = {column: led[column] for column in columns}
        left = [reading for reading in right
                if all(dict(zip(question.columns, reading))[column] == given[column] for column in given)]
        self.assertEqual(list(each_found(question, rows, given)), left)
        self.assertEqual(count_found(question, rows, given), len(left))
        self.assertIs(is_found(question, rows, given), bool(left))
        led = [dict(zip(question.columns, reading)) for reading in right]
        parts = sorted({tuple(reading[column] for column in columns) for reading in led})
        self.assertEqual(list(each_found_part(question, rows, columns)), parts)

    def test_in_all_ways(self):
        for few, kept, many, times in WAYS:
            chance = random.Random(1)
            with patch.object(plans, "FEW", few), patch.object(search, "MAX_KEPT", kept), \
                    patch.object(search, "MANY", many), patch.object(search, "MANY_TIMES", times):
                for _ in range(120):
                    question = some_question(chance, letters="abcde", most=6)
                    store = some_store(chance, most=9, values=3)
                    self.check(question, store, all_readings(question, store), chance)

    def test_many_columns(self):
        for few, kept, many, times in WAYS:
            chance = random.Random(2)
            with patch.object(plans, "FEW", few), patch.object(search, "MAX_KEPT", kept), \
                    patch.object(search, "MANY", many), patch.object(search, "MANY_TIMES", times):
                for _ in range(25):
                    question = some_question(chance, letters="abcdefgh", most=8, tables="rsw")
                    store = some_store(chance, most=4, values=2)
                    self.check(question, store, all_readings(question, store), chance)

    def test_tables_that_are_missing(self):
        question = some_question(random.Random(3), tables="r")
        self.assertEqual((list(each_found(question, {}, {})), count_found(question, {}, {})), ([], 0))
        self.assertEqual((found_until(question, {}, 5), is_found(question, {}, {})), ([], False))

    def test_without_columns(self):
        none = Search(0, [])
        self.assertEqual((none.is_open(), none.how_many(), list(none.each_tuple())), (True, 1, [()]))
        none = Search(0, [((), [])])
        self.assertEqual((none.is_open(), none.how_many(), list(none.each_tuple())), (False, 0, []))

    def test_what_is_kept_stays_small(self):
        rows = [(x, y) for x in range(30) for y in range(30)]
        with patch.object(search, "MAX_KEPT", 50):
            long = Search(4, [((0, 1), rows), ((1, 2), rows), ((2, 3), rows), ((0, 3), rows)])
            self.assertEqual(long.how_many(), 30 ** 4)
            self.assertEqual(list(itertools.islice(long.each_tuple(), 31))[-1], (0, 0, 1, 0))
            self.assertLessEqual(len(long._numbers) + len(long._opens) + len(long._choices), 50)


class ChoicesTest(unittest.TestCase):

    def test_chosen(self):
        for length in range(7):
            for many in range(9):
                self.assertEqual(all_chosen("abcdefg"[:length], many),
                                 list(itertools.combinations("abcdefg"[:length], many)))

    def test_parted(self):
        self.assertEqual([len(all_parted(many)) for many in range(7)], [1, 1, 2, 5, 15, 52, 203])
        self.assertEqual(all_parted(3), [(0, 0, 0), (0, 0, 1), (0, 1, 0), (0, 1, 1), (0, 1, 2)])
        self.assertEqual(len(set(all_parted(6))), 203)

    def test_numbered(self):
        for limits in ((), (3,), (2, 3, 1), (2, 0, 4), (0,), (1, 1), (4, 5)):
            self.assertEqual(all_numbered(limits), list(itertools.product(*[range(limit) for limit in limits])))


if __name__ == "__main__":
    unittest.main()
