"""Points 0.10, 0.14 and the functions of joinhouse.base.stores on stores and questions."""

import unittest

from joinhouse.base.questions import Question
from joinhouse.base.stores import Store, fits, frozen, frozen_answer, spread_store
from joinhouse.errors import InvalidOperation, InvalidQuestion, InvalidStore, TooMany
from tests.brute import all_readings
from tests.samples import PATH, RING, STORE, TWICE, VALUES, RefusingCase

EIGHT = Question(tuple(("r", (letter,)) for letter in "abcdefgh"), ("h", "a"))


class FitsTest(RefusingCase):

    def test_fits(self):
        for question in (PATH, RING, TWICE):
            self.assertIs(fits(STORE, question), True)
        self.assertIs(fits(STORE.without_table("t"), RING), False)
        self.assertIs(fits(STORE.without_table("t"), PATH), True)
        self.assertIs(fits(Store({"r": 2, "s": 2}, {}), PATH), True)
        for width in (1, 3):
            self.assertIs(fits(Store({"r": 2, "s": width}, {}), PATH), False)
            self.assertIs(fits(Store({"r": width, "s": 2}, {}), PATH), False)
        self.assertIs(fits(Store({"a": 2}, {}), PATH), False)
        self.assertIs(fits(Store({"a": 1}, {}), EIGHT), False)
        self.assertIs(fits(Store({"a": 1, "r": 1}, {}), EIGHT), True)

    def test_wrong_arguments(self):
        for value in VALUES:
            if not isinstance(value, Store):
                self.refused(InvalidStore, fits, value, PATH)
                self.refused(InvalidStore, fits, value, value)
                self.refused(InvalidStore, fits, value, None)
            if not isinstance(value, Question):
                self.refused(InvalidQuestion, fits, STORE, value)


class FrozenTest(RefusingCase):

    def test_frozen_stores(self):
        self.assertEqual(frozen(TWICE).lines, ("row r 0 1", "row r 2 1"))
        self.assertEqual(frozen(RING).lines, ("row r 0 1", "row s 1 2", "row t 0 2"))
        self.assertEqual(frozen(PATH), frozen(PATH.asking("b")))
        made = Question.from_lines("clause r z b z", "clause r b b y", "clause s y")
        self.assertEqual(frozen(made).lines, ("row r 0 0 1", "row r 2 0 2", "row s 1"))
        self.assertEqual(frozen(made).tables, {"r": 3, "s": 1})
        self.assertEqual(frozen(EIGHT).rows("r"), tuple((number,) for number in range(8)))

    def test_rows_are_ascending(self):
        made = Question.from_lines("clause r c a", "clause r b c", "clause r a b")
        self.assertEqual(frozen(made).rows("r"), ((0, 1), (1, 2), (2, 0)))

    def test_frozen_answers(self):
        self.assertEqual(frozen_answer(TWICE), (0,))
        self.assertEqual(frozen_answer(RING), ())
        self.assertEqual(frozen_answer(PATH), (0, 2))
        self.assertEqual(frozen_answer(PATH.asking("c", "b", "a")), (2, 1, 0))
        self.assertEqual(frozen_answer(EIGHT), (7, 0))
        self.assertEqual(frozen_answer(Question((("r", ("x", "m")),), ("x",))), (1,))

    def test_the_columns_are_a_reading(self):
        for question in (PATH, RING, TWICE):
            self.assertTrue(fits(frozen(question), question))
            self.assertIn(tuple(range(len(question.columns))), all_readings(question, frozen(question)))

    def test_wrong_arguments(self):
        for value in VALUES:
            if not isinstance(value, Question):
                self.refused(InvalidQuestion, frozen, value)
                self.refused(InvalidQuestion, frozen_answer, value)


class SpreadStoreTest(RefusingCase):

    def test_spread_stores(self):
        made = spread_store(TWICE, STORE)
        self.assertEqual(made.tables, {"ca": 2, "cb": 2})
        self.assertEqual((made.rows("ca"), made.rows("cb")), (STORE.rows("r"), STORE.rows("r")))
        made = spread_store(PATH, STORE)
        self.assertEqual((made.rows("ca"), made.rows("cb")), (STORE.rows("r"), STORE.rows("s")))
        self.assertEqual(spread_store(PATH, Store({"r": 2, "s": 2}, {})), Store({"ca": 2, "cb": 2}, {}))

    def test_the_same_all_readings(self):
        three = Question.from_lines("clause r a b", "clause r b a", "clause s b b", "asked b")
        store = Store.from_lines("row r 1 2", "row r 2 1", "row s 2 2", "row s 1 3", "row t 1")
        for question in (PATH, RING, TWICE, three, Question.from_lines("clause s c d", "clause r a b")):
            for one in (STORE, store.with_row("r", (2, 2)) + STORE.without_table("t") if question != RING else STORE):
                told = all_readings(question.spread, spread_store(question, one))
                self.assertEqual(told, all_readings(question, one))

    def test_wrong_arguments(self):
        for value in VALUES:
            if not isinstance(value, Question):
                self.refused(InvalidQuestion, spread_store, value, STORE)
                self.refused(InvalidQuestion, spread_store, value, value)
                self.refused(InvalidQuestion, spread_store, value, None)
            if not isinstance(value, Store):
                self.refused(InvalidStore, spread_store, PATH, value)
        self.refused(InvalidOperation, spread_store, RING, STORE.without_table("t"))
        self.refused(InvalidOperation, spread_store, PATH, Store({"r": 2, "s": 3}, {}))

    def test_too_many_rows(self):
        rows = tuple((number,) for number in range(376))
        self.assertEqual(len(spread_store(EIGHT, Store({"r": 1}, {"r": rows[:375]}))), 3000)
        self.refused(TooMany, spread_store, EIGHT, Store({"r": 1}, {"r": rows}), keeps=("limit", 3000))
        many = Store({"r": 1, "s": 1}, {"s": tuple((number,) for number in range(3000))})
        self.assertEqual(len(spread_store(EIGHT, many)), 0)
        self.refused(InvalidOperation, spread_store, RING, many)


if __name__ == "__main__":
    unittest.main()
