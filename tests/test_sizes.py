"""Points 0.18, 11.1, 11.2 and the functions of joinhouse.size.bounds on sizes, keys and what they reach."""

import random
import unittest

from joinhouse.base.questions import Question
from joinhouse.base.stores import Store
from joinhouse.errors import InvalidKeys, InvalidOperation, InvalidQuestion, InvalidStore
from joinhouse.size import bounds
from joinhouse.size.bounds import are_keys, are_sizes, broken_key, decided_by, keeps_keys, reached_by
from tests.brute import asking, shape, some_shape, store_for
from tests.samples import PATH, RING, SIXTY, SIXTY_ONE, STORE, TWICE, VALUES, RefusingCase

GOOD = {"r": (1, 1), "s": (1, 2)}
CHAIN = shape("ab", "bc", "cde", "ea", asked="abcde")


def some_keys(chance, question, most=4):
    """Keys of a plain question by chance."""
    every = [(table, one, other) for table, width in question.tables.items()
             for one in range(width) for other in range(width) if one != other]
    return tuple(sorted(chance.sample(every, min(len(every), chance.randint(0, most)))))


def decided_by_search(question, keys):
    """For each column the columns that it decides, round by round."""
    columns = dict(question.clauses)
    found = {}
    for column in question.columns:
        some = {column}
        for _ in range(9):
            some |= {columns[table][other] for table, one, other in keys if columns[table][one] in some}
        found[column] = tuple(sorted(some))
    return found


def reached_by_search(question, keys):
    decided = decided_by_search(question, keys)
    return {table: tuple(sorted({other for column in columns for other in decided[column]}))
            for table, columns in question.clauses}


class SizesTest(RefusingCase):

    def test_constants(self):
        self.assertEqual((bounds.MAX_SIZE, bounds.MAX_PART, bounds.MAX_KEYS, bounds.MAX_GROWTH), (9, 2, 20, 1000))

    def test_each_size(self):
        for one in (*range(-2, 25), SIXTY, SIXTY_ONE):
            for other in range(-2, 6):
                right = other == 1 and 0 <= one <= 9 or other == 2 and one % 2 == 1 and 1 <= one <= 17
                self.assertIs(are_sizes(PATH, {**GOOD, "r": (one, other)}), right, (one, other))

    def test_forms(self):
        for value in (GOOD, {"s": (0, 1), "r": (9, 1)}, {"r": (17, 2), "s": (1, 2)}):
            self.assertIs(are_sizes(PATH, value), True)
        for value in (
            *VALUES, {"r": (1, 1)}, {**GOOD, "t": (1, 1)}, {"r": (1, 1), "t": (1, 1)}, {**GOOD, "r": (19, 2)},
            {**GOOD, "r": (2, 2)}, {**GOOD, "r": (0, 2)}, {**GOOD, "r": (1, 3)}, {**GOOD, "r": (1, 0)}, {**GOOD, "r": (10, 1)},
            {**GOOD, "r": (True, 1)}, {**GOOD, "r": (1, True)}, {**GOOD, "r": [1, 1]}, {**GOOD, "r": 1}, {**GOOD, "r": (1,)},
            {**GOOD, "r": (1, 1, 1)}, {**GOOD, "r": (-1, 1)}, {**GOOD, "r": (1, -1)}, {**GOOD, "r": None},
            tuple(GOOD.items()), {**GOOD, 1: (1, 1)}, {"r": (1, 1), True: (1, 1)}, {"r": (1, 1), "s": ((1, 1), 1)},
        ):
            self.assertIs(are_sizes(PATH, value), False, value)


class KeysTest(RefusingCase):

    def test_forms(self):
        twenty = tuple(("td", one, other) for one in range(5) for other in range(5) if one != other)
        wide = shape("a", "b", "c", "abcde", "ab")
        for question, value in ((PATH, ()), (PATH, (("r", 0, 1),)), (PATH, (("r", 1, 0), ("s", 0, 1), ("s", 1, 0))),
                                (wide, twenty), (shape("aa"), (("ta", 0, 1), ("ta", 1, 0)))):
            self.assertIs(are_keys(question, value), True)
        self.assertEqual(len(twenty), 20)
        self.assertIs(are_keys(wide, (*twenty, ("te", 0, 1))), False)
        self.assertIs(are_keys(wide, (*twenty[1:], ("te", 0, 1))), True)
        for value in (
            *VALUES, (("r", 0, 0),), (("r", 0, 2),), (("r", 2, 0),), (("r", -1, 0),), (("r", True, 0),), (("r", 0, True),),
            (("r", False, 1),), (("t", 0, 1),), (("r", 0),), (("r", 0, 1, 1),), (("s", 0, 1), ("r", 0, 1)),
            (("r", 0, 1), ("r", 0, 1)), [("r", 0, 1)], (["r", 0, 1],), ("r", 0, 1), (("r", 0, None),), (("r", 0, SIXTY),),
            (("r", 0, "1"),), ((["r"], 0, 1),), ((None, 0, 1),), (("r", [0], 1),), (("r", 0, SIXTY_ONE),), ((PATH, 0, 1),),
        ):
            self.assertIs(are_keys(PATH, value), value == (), value)
            if value != ():
                self.refused(InvalidKeys, decided_by, PATH, value)
                self.refused(InvalidKeys, reached_by, PATH, value)

    def test_decided_columns(self):
        for keys, decided in (
            ((), {column: (column,) for column in "abcde"}),
            ((("ta", 0, 1), ("tb", 0, 1), ("tc", 0, 2)),
             {"a": ("a", "b", "c", "e"), "b": ("b", "c", "e"), "c": ("c", "e"), "d": ("d",), "e": ("e",)}),
            ((("ta", 0, 1), ("tb", 0, 1), ("tc", 0, 2), ("td", 0, 1)), {
                "a": ("a", "b", "c", "e"), "b": ("a", "b", "c", "e"), "c": ("a", "b", "c", "e"), "d": ("d",),
                "e": ("a", "b", "c", "e")}),
        ):
            self.assertEqual(decided_by(CHAIN, keys), decided)
            self.assertEqual(list(decided_by(CHAIN, keys)), list("abcde"))
        self.assertEqual(reached_by(CHAIN, (("tc", 0, 2), ("td", 0, 1))),
                         {"ta": ("a", "b"), "tb": ("a", "b", "c", "e"), "tc": tuple("acde"), "td": ("a", "e")})

    def test_against_a_search(self):
        chance = random.Random(1)
        for _ in range(200):
            question = some_shape(chance, letters="abcdef")
            keys = some_keys(chance, question, most=7)
            self.assertIs(are_keys(question, keys), True)
            self.assertEqual(decided_by(question, keys), decided_by_search(question, keys))
            self.assertEqual(reached_by(question, keys), reached_by_search(question, keys))
            self.assertEqual(list(reached_by(question, keys)), sorted(question.tables))

    def test_a_column_twice_in_a_clause(self):
        twice = shape("aba", "c")
        self.assertEqual(decided_by(twice, (("ta", 2, 1),)), {"a": ("a", "b"), "b": ("b",), "c": ("c",)})
        self.assertEqual(decided_by(twice, (("ta", 0, 2),)), {"a": ("a",), "b": ("b",), "c": ("c",)})

    def test_wrong_questions(self):
        for value in VALUES:
            for function in (are_sizes, are_keys, decided_by, reached_by):
                if not isinstance(value, Question):
                    self.refused(InvalidQuestion, function, value, ())
                    self.refused(InvalidQuestion, function, value, value)
                self.refused(InvalidOperation, function, TWICE, value)
        self.refused(InvalidOperation, are_sizes, TWICE, {"r": (1, 1)})


class KeptKeysTest(RefusingCase):

    def kept_by_words(self, store, key):
        table, one, other = key
        return all(first[one] != second[one] or first[other] == second[other]
                   for first in store.rows(table) for second in store.rows(table))

    def test_by_chance(self):
        chance = random.Random(2)
        seen = [0, 0]
        for _ in range(300):
            question = some_shape(chance, wide=3)
            store = store_for(chance, question, most=chance.choice((2, 3, 5)), values=3, others=False)
            keys = some_keys(chance, question, most=3)
            right = all(self.kept_by_words(store, key) for key in keys)
            self.assertIs(keeps_keys(store, keys), right)
            broken = broken_key(store, keys)
            self.assertEqual(broken is None, right)
            if broken is not None:
                key, first, second = broken
                self.assertIn(key, keys)
                self.assertIn((key[0], first), store)
                self.assertIn((key[0], second), store)
                self.assertLess(first, second)
                self.assertEqual(first[key[1]], second[key[1]])
                self.assertNotEqual(first[key[2]], second[key[2]])
            seen[right] += 1
        self.assertGreater(min(seen), 60)

    def test_the_only_broken_one(self):
        store = Store({"r": 2, "s": 2}, {"r": ((1, 2), (2, 2), (3, 2)), "s": ((1, 1), (2, 2), (3, 3))})
        keys = (("r", 0, 1), ("r", 1, 0), ("s", 0, 1), ("s", 1, 0))
        key, first, second = broken_key(store, keys)
        self.assertEqual((key, first[1], second[1]), (("r", 1, 0), 2, 2))
        self.assertIs(keeps_keys(store, (keys[0], *keys[2:])), True)
        self.assertIs(keeps_keys(store, ()), True)
        self.assertIs(keeps_keys(Store({"r": 2}, {}), (("r", 0, 1),)), True)
        rows = tuple((at, at % 1499) for at in range(1500))
        many = Store({"r": 2}, {"r": rows})
        self.assertEqual(broken_key(many, (("r", 0, 1), ("r", 1, 0))), (("r", 1, 0), (0, 0), (1499, 0)))

    def test_wrong_arguments(self):
        for value in VALUES:
            if not isinstance(value, Store):
                self.refused(InvalidStore, keeps_keys, value, ())
                self.refused(InvalidStore, broken_key, value, value)
            if value != ():
                self.refused(InvalidKeys, keeps_keys, STORE, value)
                self.refused(InvalidKeys, broken_key, STORE, value)
        for keys in ((("z", 0, 1),), (("r", 0, 2),), (("r", 1, 1),), (("s", 0, 1), ("r", 0, 1)), (("r", 0, True),)):
            self.refused(InvalidKeys, keeps_keys, STORE, keys)
            self.refused(InvalidKeys, broken_key, STORE, keys)
        wide = Store({"w": 8}, {"w": ((0,) * 8,)})
        keys = tuple(("w", one, other) for one in range(8) for other in range(8) if one != other)
        self.assertIs(keeps_keys(wide, keys[:20]), True)
        self.refused(InvalidKeys, keeps_keys, wide, keys[:21])
        self.assertIs(keeps_keys(STORE, (("t", 0, 1),)), True)
        self.assertEqual(RING.tables["t"], 2)
        self.assertEqual(asking("r a b").tables, {"r": 2})


if __name__ == "__main__":
    unittest.main()
