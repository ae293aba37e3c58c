"""Points 0.17, 0.26, 9.4 and the functions of joinhouse.shape.knots on stores."""

import itertools
import random
import unittest

from joinhouse.base.questions import Question
from joinhouse.base.readings import is_answered
from joinhouse.base.stores import Store, fits
from joinhouse.errors import InvalidKnot, InvalidOperation, InvalidQuestion, InvalidStore
from joinhouse.shape.knots import are_agreeing, is_stuck, knot_of, stuck_by, stuck_store
from joinhouse.shape.trees import join_tree
from tests.brute import (
    agree,
    agrees_itself,
    all_readings,
    asking,
    crown_of,
    ring_of,
    shape,
    some_question,
    some_shape,
    some_store,
    store_for,
)
from tests.samples import PATH, RING, STORE, TWICE, VALUES, RefusingCase


def stuck_rows_by_words(columns, knot):
    """The rows of a clause in the stuck store from a knot, as point 9.4 tells them."""
    word, names = knot
    found = set()
    for bits in itertools.product((0, 1), repeat=len(names)):
        values = dict(zip(names, bits))
        some = [name for name in names if name in columns]
        ones = sum(values[name] for name in some)
        if word == "crown":
            good = ones == 1 if len(some) == len(names) - 1 else ones <= 1
        elif len(some) == 2:
            last = set(some) == {names[0], names[-1]}
            good = (values[some[0]] != values[some[1]]) if last else (values[some[0]] == values[some[1]])
        else:
            good = len(some) < 2
        if good:
            found.add(tuple(values.get(column, 0) for column in columns))
    return tuple(sorted(found))


def agree_by_words(question, store):
    """Whether rows agree as point 9.4 tells it, pair by pair."""
    for one, columns in question.clauses:
        if not all(agrees_itself(columns, row) for row in store.rows(one)):
            return False
        for other, others in question.clauses:
            if (one, columns) != (other, others) and not all(
                    any(agree(columns, row, others, beside) for beside in store.rows(other)) for row in store.rows(one)):
                return False
    return True


def is_stuck_by_words(question, store):
    if not all(store.rows(table) for table in question.tables):
        return False
    return agree_by_words(question, store) and not all_readings(question, store)


class StuckByTest(RefusingCase):

    def check(self, question, knot):
        store = stuck_by(question, knot)
        self.assertEqual(store.tables, question.tables)
        for table, columns in question.clauses:
            self.assertEqual(store.rows(table), stuck_rows_by_words(columns, knot))
        self.assertTrue(is_stuck_by_words(question, store))
        self.assertIs(is_stuck(question, store), True)
        self.assertIs(is_answered(question, store), False)
        self.assertIs(are_agreeing(question, store), True)

    def test_rings_and_crowns(self):
        for many in range(4, 9):
            columns = "abcdefgh"[:many]
            self.check(ring_of(columns), ("ring", tuple(columns)))
        for many in range(3, 9):
            columns = "abcdefgh"[:many]
            self.check(crown_of(columns), ("crown", tuple(columns)))
        self.check(ring_of("acbd"), ("ring", ("a", "c", "b", "d")))

    def test_other_clauses(self):
        four = ("ring", tuple("abcd"))
        self.check(shape("ab", "bc", "cd", "da", "a", "xy", "xb", "cxyc"), four)
        self.check(shape("aab", "bxcb", "dc", "dad"), four)
        three = ("crown", tuple("abc"))
        self.check(shape("ab", "bcx", "ca", "a", "xy", "cyc", "bb"), three)
        self.check(shape("abc", "abd", "acd", "bcd", "ab", "dd", "e", "cda"), ("crown", tuple("abcd")))

    def test_by_chance(self):
        chance = random.Random(1)
        seen = [0, 0]
        for at in range(500):
            letters, most, wide = (("abcd", 5, 3), ("abcde", 7, 2), ("abcdef", 8, 3))[at % 3]
            question = some_shape(chance, letters=letters, most=most, wide=wide)
            knot = knot_of(question)
            seen[knot is None] += 1
            if knot is not None:
                self.check(question, knot)
                self.assertIs(is_stuck(question, stuck_store(question)), True)
            else:
                self.assertIsNone(stuck_store(question))
        self.assertGreater(min(seen), 50)

    def test_rows(self):
        store = stuck_by(ring_of("abcd"), ("ring", tuple("abcd")))
        self.assertEqual((store.rows("ta"), store.rows("td")), (((0, 0), (1, 1)), ((0, 1), (1, 0))))
        store = stuck_by(shape("ab", "ac", "bc", "a", "x"), ("crown", tuple("abc")))
        self.assertEqual((store.rows("ta"), store.rows("td"), store.rows("te")),
                         (((0, 1), (1, 0)), ((0,), (1,)), ((0,),)))

    def test_wrong_arguments(self):
        four = ring_of("abcd")
        for value in VALUES:
            if not isinstance(value, Question):
                self.refused(InvalidQuestion, stuck_by, value, ("crown", ("a", "b", "c")))
                self.refused(InvalidQuestion, stuck_by, value, value)
                self.refused(InvalidQuestion, stuck_store, value)
                self.refused(InvalidQuestion, is_stuck, value, value)
                self.refused(InvalidQuestion, is_stuck, value, STORE)
            self.refused(InvalidOperation, stuck_by, TWICE, value)
            self.refused(InvalidKnot, stuck_by, PATH, value)
            self.refused(InvalidKnot, stuck_by, four, value)
            self.refused(InvalidOperation, is_stuck, TWICE, value)
        self.refused(InvalidOperation, stuck_store, TWICE)
        same = asking("e a b", "e b c", "e c d", "e d a")
        self.refused(InvalidOperation, stuck_by, same, ("ring", tuple("abcd")))
        self.refused(InvalidOperation, stuck_store, same)
        for knot in (("ring", tuple("bcda")), ("ring", tuple("adcb")), ("crown", tuple("abc")), ["ring", tuple("abcd")],
                     ("ring", tuple("abcde"))):
            self.refused(InvalidKnot, stuck_by, four, knot)
        self.refused(InvalidKnot, stuck_by, RING, ("ring", tuple("abcd")))


class StuckStoresTest(RefusingCase):

    def test_against_the_words(self):
        chance = random.Random(2)
        seen = [0, 0]
        for question in (RING, ring_of("abcd"), shape("ab", "bc", "ca", "a"), shape("aab", "bc", "ac"), PATH):
            for at in range(120):
                store = store_for(chance, question, most=4, values=2, others=False)
                if at % 2 and question != PATH:
                    rows = [pair for pair in [*stuck_store(question), *store] if chance.random() < 0.9]
                    if at % 4 == 3:
                        rows = [pair for pair in rows if pair in stuck_store(question)]
                    store = Store(store.tables, {
                        table: tuple({row for name, row in rows if name == table}) for table in store.tables})
                right = is_stuck_by_words(question, store)
                self.assertIs(is_stuck(question, store), right)
                seen[right] += 1
        self.assertGreater(min(seen), 10)

    def test_a_row_more_or_less(self):
        for question in (RING, ring_of("abcd"), shape("ab", "bcx", "ca", "xy", "b")):
            store = stuck_store(question)
            self.assertIs(is_stuck(question, store), True)
            for table, row in store:
                less = store.without_row(table, row)
                self.assertIs(is_stuck(question, less), is_stuck_by_words(question, less))
            for table in question.tables:
                width = question.tables[table]
                for row in itertools.product((0, 1, 5), repeat=width):
                    if (table, row) not in store:
                        more = store.with_row(table, row)
                        self.assertIs(is_stuck(question, more), is_stuck_by_words(question, more))

    def test_other_tables(self):
        store = stuck_store(RING)
        self.assertIs(is_stuck(RING, store.with_table("z", 1)), True)
        self.assertIs(is_stuck(RING, store.with_table("z", 1).with_row("z", (7,))), True)
        self.assertIs(is_stuck(RING, store.without_table("t")), False)
        self.assertIs(is_stuck(RING, store.without_table("t").with_table("t", 2)), False)
        self.assertIs(is_stuck(RING, store.without_table("t").with_table("t", 3)), False)

    def test_no_stuck_stores(self):
        for value in (*VALUES, Store({"r": 2, "s": 2, "t": 2}, {}), (stuck_store(RING),), stuck_store(RING).lines):
            self.assertIs(is_stuck(RING, value), False)
            self.assertIs(is_stuck(PATH, value), False)
        lone = shape("aa")
        self.assertIs(is_stuck(lone, Store({"ta": 2}, {"ta": ((0, 1),)})), False)
        self.assertIs(is_stuck(lone, Store({"ta": 2}, {"ta": ((1, 1),)})), False)

    def test_many_rows(self):
        many = 750
        rows = {"t" + letter: tuple((at, at) for at in range(many)) for letter in "abc"}
        rows["td"] = tuple((at, (at + 1) % many) for at in range(many))
        store = Store({"t" + letter: 2 for letter in "abcd"}, rows)
        self.assertIs(is_stuck(ring_of("abcd"), store), True)
        row = ("td", (5, 5))
        self.assertIs(is_stuck(ring_of("abcd"), store.without_row("td", (0, 1)).with_row(*row)), False)


class AgreeingTest(RefusingCase):

    def test_by_chance(self):
        chance = random.Random(3)
        seen = [0, 0]
        for at in range(600):
            if at % 3:
                question = some_shape(chance, letters="abcd", most=3)
                store = store_for(chance, question, most=chance.choice((3, 6, 9)), values=2)
            else:
                question = some_question(chance, letters="abc", most=2, tables="rt")
                store = some_store(chance, most=3, values=2, great=0, tables="rt")
            right = agree_by_words(question, store)
            self.assertIs(are_agreeing(question, store), right)
            seen[right] += 1
        self.assertGreater(min(seen), 80)

    def test_empty_tables(self):
        empty = Store({"r": 2, "s": 2, "t": 2}, {})
        self.assertIs(are_agreeing(PATH, empty), True)
        self.assertIs(are_agreeing(RING, empty), True)
        self.assertIs(are_agreeing(PATH, empty.with_row("t", (1, 2))), True)
        self.assertIs(are_agreeing(PATH, empty.with_row("r", (1, 2))), False)
        self.assertIs(are_agreeing(PATH, empty.with_row("s", (1, 2))), False)
        loose = shape("a", "b")
        store = Store({"ta": 1, "tb": 1}, {"ta": ((1,), (2,))})
        self.assertIs(are_agreeing(loose, store), False)
        self.assertIs(are_agreeing(loose, store.with_row("tb", (9,))), True)

    def test_rows_that_do_not_agree_with_themselves(self):
        twice = asking("w a b a", "t a")
        store = Store({"w": 3, "t": 1}, {"w": ((1, 2, 1),), "t": ((1,),)})
        self.assertIs(are_agreeing(twice, store), True)
        self.assertIs(are_agreeing(twice, store.with_row("w", (1, 2, 3))), False)
        self.assertIs(are_agreeing(asking("r a a"), STORE), False)

    def test_one_table_in_two_clauses(self):
        self.assertIs(are_agreeing(TWICE, STORE), True)
        steps = asking("e a b", "e b c")
        store = Store({"e": 2}, {"e": ((1, 2), (2, 1))})
        self.assertIs(are_agreeing(steps, store), True)
        self.assertIs(are_agreeing(steps, store.with_row("e", (2, 3))), False)

    def test_agreeing_without_a_reading_in_all(self):
        self.assertIs(are_agreeing(RING, stuck_store(RING)), True)
        self.assertIs(is_answered(RING, stuck_store(RING)), False)
        self.assertIsNone(join_tree(RING))

    def test_wrong_arguments(self):
        for value in VALUES:
            if not isinstance(value, Question):
                self.refused(InvalidQuestion, are_agreeing, value, STORE)
                self.refused(InvalidQuestion, are_agreeing, value, value)
            if not isinstance(value, Store):
                self.refused(InvalidStore, are_agreeing, PATH, value)
        self.refused(InvalidOperation, are_agreeing, RING, STORE.without_table("t"))
        self.refused(InvalidOperation, are_agreeing, PATH, Store({"r": 2, "s": 3}, {}))
        self.assertFalse(fits(STORE.without_table("t"), RING))


if __name__ == "__main__":
    unittest.main()
