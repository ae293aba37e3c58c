"""The examples of the document, as they stand there."""

import unittest

from joinhouse.base.questions import are_alike
from joinhouse.base.stores import fits, frozen, frozen_answer
from joinhouse.base.words import are_names, coprime, is_count, is_integer, is_name, is_naming, is_row
from tests.samples import PATH, RING, STORE, TWICE


class ExamplesTest(unittest.TestCase):

    def test_words(self):
        self.assertEqual(
            [is_integer(-7), is_count(True), is_name("ab1"), are_names(()), is_row((0, 7)), is_row(()),
             is_naming(("a", "b"), {"a": "b", "b": "a"}), coprime(6, 4)],
            [True, False, False, True, True, False, True, (3, 2)],
        )

    def test_questions(self):
        self.assertEqual(
            [str(PATH), PATH.columns, PATH.tables, PATH.is_plain, TWICE.is_plain, PATH.having("b"), str(PATH.full)],
            ['a c : r(a b) s(b c)', ('a', 'b', 'c'), {'r': 2, 's': 2}, True, False, (0, 1), 'a b c : r(a b) s(b c)'],
        )
        self.assertEqual(
            [RING.lines[3], str(RING.without_clause(("t", ("a", "c")))),
             str(PATH.folded({"a": "a", "b": "a", "c": "c"})), str(TWICE.folded({"a": "x", "b": "y", "c": "x"}))],
            ['asked', ': r(a b) s(b c)', 'a c : r(a a) s(a c)', 'x : r(x y)'],
        )
        self.assertEqual(
            [are_alike(TWICE, TWICE.renamed({"a": "c", "b": "d", "c": "a"})), are_alike(PATH, RING), str(PATH + RING),
             ("r", ("a", "b")) in PATH, str(TWICE.spread)],
            [True, False, 'a c : r(a b) s(b c) t(a c)', True, 'a : ca(a b) cb(c b)'],
        )

    def test_stores(self):
        self.assertEqual(
            [str(STORE), STORE.tables, STORE.rows("s"), STORE.domain, ("r", (1, 2)) in STORE, fits(STORE, PATH),
             fits(STORE.without_table("t"), RING)],
            ['store of 3 tables, 7 rows', {'r': 2, 's': 2, 't': 2}, ((2, 5), (3, 5), (3, 6)), (1, 2, 3, 4, 5, 6), True,
             True, False],
        )
        self.assertEqual(
            [frozen(TWICE).lines, frozen_answer(TWICE), len(STORE * STORE), (STORE * STORE).rows("t"),
             STORE.without_row("t", (4, 6)).lines[0]],
            [('row r 0 1', 'row r 2 1'), (0,), 19, ((32, 48),), 'table t 2'],
        )

    def test_the_four_objects(self):
        self.assertEqual(PATH.lines, ("clause r a b", "clause s b c", "asked a c"))
        self.assertEqual(RING.lines, ("clause r a b", "clause s b c", "clause t a c", "asked"))
        self.assertEqual(TWICE.lines, ("clause r a b", "clause r c b", "asked a"))
        self.assertEqual(STORE.lines, ("row r 1 2", "row r 1 3", "row r 4 3", "row s 2 5", "row s 3 5", "row s 3 6",
                                       "row t 4 6"))


if __name__ == "__main__":
    unittest.main()
