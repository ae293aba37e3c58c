"""The examples of the document, as they stand there."""

import unittest

from joinhouse.base.questions import Question, are_alike
from joinhouse.base.readings import (
    answers,
    count_of,
    count_readings,
    counts,
    each_reading,
    is_answered,
    is_reading,
    rows_read,
)
from joinhouse.base.stores import Store, fits, frozen, frozen_answer
from joinhouse.base.words import are_names, coprime, is_count, is_integer, is_name, is_naming, is_row
from joinhouse.count.alike import (
    are_alike_stores,
    count_injections,
    count_onto,
    is_parting_count,
    is_parting_question,
    parting_count,
    question_of,
    same_counts,
)
from joinhouse.fold.cores import core_of, count_turns, each_core, folding_onto, is_core, merging_map, spare_clauses
from joinhouse.fold.maps import (
    count_maps,
    each_map,
    find_map,
    has_all_answers,
    is_lost_answer,
    least_union,
    lost_answer,
    same_answers,
)
from tests.samples import PATH, RING, STORE, TWICE


class ExamplesTest(unittest.TestCase):

    def test_words(self):
        self.assertEqual(
            [is_integer(-7), is_count(True), is_name("ab1"), are_names(()), is_row((0, 7)), is_row(()),
             is_naming(("a", "b"), {"a": "b", "b": "a"}), coprime(6, 4)],
            [True, False, False, True, True, False, True, (3, 2)],
        )

    def test_questions(self):
        self.assertEqual(
            [str(PATH), PATH.columns, PATH.tables, PATH.is_plain, TWICE.is_plain, PATH.having("b"), str(PATH.full)],
            ['a c : r(a b) s(b c)', ('a', 'b', 'c'), {'r': 2, 's': 2}, True, False, (0, 1), 'a b c : r(a b) s(b c)'],
        )
        self.assertEqual(
            [RING.lines[3], str(RING.without_clause(("t", ("a", "c")))),
             str(PATH.folded({"a": "a", "b": "a", "c": "c"})), str(TWICE.folded({"a": "x", "b": "y", "c": "x"}))],
            ['asked', ': r(a b) s(b c)', 'a c : r(a a) s(a c)', 'x : r(x y)'],
        )
        self.assertEqual(
            [are_alike(TWICE, TWICE.renamed({"a": "c", "b": "d", "c": "a"})), are_alike(PATH, RING), str(PATH + RING),
             ("r", ("a", "b")) in PATH, str(TWICE.spread)],
            [True, False, 'a c : r(a b) s(b c) t(a c)', True, 'a : ca(a b) cb(c b)'],
        )

    def test_stores(self):
        self.assertEqual(
            [str(STORE), STORE.tables, STORE.rows("s"), STORE.domain, ("r", (1, 2)) in STORE, fits(STORE, PATH),
             fits(STORE.without_table("t"), RING)],
            ['store of 3 tables, 7 rows', {'r': 2, 's': 2, 't': 2}, ((2, 5), (3, 5), (3, 6)), (1, 2, 3, 4, 5, 6), True,
             True, False],
        )
        self.assertEqual(
            [frozen(TWICE).lines, frozen_answer(TWICE), len(STORE * STORE), (STORE * STORE).rows("t"),
             STORE.without_row("t", (4, 6)).lines[0]],
            [('row r 0 1', 'row r 2 1'), (0,), 19, ((32, 48),), 'table t 2'],
        )

    def test_readings(self):
        self.assertEqual(
            [list(each_reading(PATH, STORE)), counts(PATH, STORE), answers(TWICE, STORE), is_answered(RING, STORE)],
            [[(1, 2, 5), (1, 3, 5), (1, 3, 6), (4, 3, 5), (4, 3, 6)], {(1, 5): 2, (1, 6): 1, (4, 5): 1, (4, 6): 1},
             ((1,), (4,)), True],
        )
        self.assertEqual(
            [count_readings(TWICE, STORE), count_of(TWICE, STORE, (1,)), list(each_reading(RING, STORE)),
             rows_read(RING, STORE, (4, 3, 6)), is_reading(PATH, STORE, (1, 2, 6))],
            [5, 3, [(4, 3, 6)], ((4, 3), (3, 6), (4, 6)), False],
        )

    def test_maps(self):
        WAY = Question.from_lines("clause r a b", "clause r b c", "clause r c d", "asked a")
        SELF = Question.from_lines("clause r x x", "asked x")
        self.assertEqual(
            [find_map(WAY, SELF), find_map(SELF, WAY), has_all_answers(WAY, SELF), has_all_answers(SELF, WAY),
             count_maps(TWICE, TWICE), list(each_map(TWICE, TWICE))[0]],
            [{'a': 'x', 'b': 'x', 'c': 'x', 'd': 'x'}, None, True, False, 2, {'a': 'a', 'b': 'b', 'c': 'a'}],
        )
        store, answer = lost_answer(SELF, WAY)
        self.assertEqual(
            [is_lost_answer(SELF, WAY, (store, answer)), is_lost_answer(SELF, WAY, (frozen(WAY), (0,))),
             lost_answer(WAY, SELF), least_union((SELF, WAY, TWICE))],
            [True, True, None, (2,)],
        )

    def test_cores(self):
        self.assertEqual(
            [is_core(TWICE), str(core_of(TWICE)), [str(core) for core in each_core(TWICE.asking())],
             folding_onto(TWICE, core_of(TWICE)), merging_map(RING)],
            [False, 'a : r(a b)', [': r(a b)', ': r(c b)'], {'a': 'a', 'b': 'b', 'c': 'a'}, None],
        )
        SIX = Question.from_lines("clause e a b", "clause e b a", "clause e b c", "clause e c b", "clause e c d",
                                  "clause e d c")
        self.assertEqual(
            [len(core_of(SIX)), count_turns(core_of(SIX)), len(list(each_core(SIX))), len(spare_clauses(SIX)),
             spare_clauses(TWICE), count_turns(RING)],
            [2, 2, 3, 6, (('r', ('c', 'b')),), 1],
        )

    def test_counts(self):
        SINGLE = Question.from_lines("clause r a b", "asked a")
        self.assertEqual(
            [same_answers(TWICE, SINGLE), same_counts(TWICE, SINGLE), count_onto(TWICE, SINGLE),
             count_onto(SINGLE, TWICE), same_counts(PATH, PATH.renamed({"a": "c", "b": "a", "c": "b"}))],
            [True, False, 1, 0, True],
        )
        store, answer = parting_count(TWICE, SINGLE)
        self.assertEqual(
            [is_parting_count(TWICE, SINGLE, (store, answer)), is_parting_count(TWICE, SINGLE, (frozen(TWICE), (0,))),
             is_parting_count(TWICE, SINGLE, (frozen(SINGLE), (0,)))],
            [True, True, False],
        )
        LEFT = Store.from_lines("row e 1 2", "row e 2 1", "row e 3 4", "row e 4 3")
        RIGHT = Store.from_lines("row e 1 2", "row e 2 3", "row e 3 4", "row e 4 1")
        self.assertEqual(
            [are_alike_stores(LEFT, RIGHT), str(question_of(RIGHT)),
             is_parting_question(LEFT, RIGHT, Question.from_lines("clause e a b", "clause e b a")),
             count_injections(LEFT, LEFT), count_injections(LEFT, RIGHT)],
            [False, ': e(a b) e(b c) e(c d) e(d a)', True, 8, 0],
        )

    def test_the_four_objects(self):
        self.assertEqual(PATH.lines, ("clause r a b", "clause s b c", "asked a c"))
        self.assertEqual(RING.lines, ("clause r a b", "clause s b c", "clause t a c", "asked"))
        self.assertEqual(TWICE.lines, ("clause r a b", "clause r c b", "asked a"))
        self.assertEqual(STORE.lines, ("row r 1 2", "row r 1 3", "row r 4 3", "row s 2 5", "row s 3 5", "row s 3 6",
                                       "row t 4 6"))


if __name__ == "__main__":
    unittest.main()
