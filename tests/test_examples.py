"""The examples of the document, as they stand there."""

import unittest

from joinhouse.base.questions import Question, are_alike
from joinhouse.base.readings import (
    answers,
    count_of,
    count_readings,
    counts,
    each_reading,
    is_answered,
    is_reading,
    rows_read,
)
from joinhouse.base.stores import Store, fits, frozen, frozen_answer
from joinhouse.base.words import are_names, coprime, is_count, is_integer, is_name, is_naming, is_row
from joinhouse.count.alike import (
    are_alike_stores,
    count_injections,
    count_onto,
    is_parting_count,
    is_parting_question,
    parting_count,
    question_of,
    same_counts,
)
from joinhouse.count.whence import Whence, is_parting_whence, lost_with, parting_whence, whence_of, whences
from joinhouse.errors import NotLayered
from joinhouse.fold.cores import core_of, count_turns, each_core, folding_onto, is_core, merging_map, spare_clauses
from joinhouse.fold.maps import (
    count_maps,
    each_map,
    find_map,
    has_all_answers,
    is_lost_answer,
    least_union,
    lost_answer,
    same_answers,
)
from joinhouse.order.layers import Ranked, count_layered, is_layer_paper, is_layered, layer_paper, layered_order
from joinhouse.shape.knots import are_agreeing, is_knot, is_stuck, knot_of, stuck_by, stuck_store
from joinhouse.shape.reducers import (
    count_copies,
    full_reducer,
    is_full_reducer,
    left_by,
    missed_store,
    read_rows,
)
from joinhouse.shape.trees import is_cutting, join_tree, tree_of
from joinhouse.size.bounds import (
    broken_key,
    count_worst,
    keeps_keys,
    least_covering,
    let_by,
    reached_by,
    size_bound,
    worst_store,
)
from joinhouse.width.bags import bag_rows, bag_tree, count_by_bags, is_bag_tree, is_least_order, order_width, width_of
from joinhouse.width.escapes import escape_table, flight, is_escape_table, is_width_paper, lots_behind, width_paper
from tests.samples import LOOP, PATH, RING, STORE, TWICE


class ExamplesTest(unittest.TestCase):

    def test_words(self):
        self.assertEqual(
            [is_integer(-7), is_count(True), is_name("ab1"), are_names(()), is_row((0, 7)), is_row(()),
             is_naming(("a", "b"), {"a": "b", "b": "a"}), coprime(6, 4)],
            [True, False, False, True, True, False, True, (3, 2)],
        )

    def test_questions(self):
        self.assertEqual(
            [str(PATH), PATH.columns, PATH.tables, PATH.is_plain, TWICE.is_plain, PATH.having("b"), str(PATH.full)],
            ['a c : r(a b) s(b c)', ('a', 'b', 'c'), {'r': 2, 's': 2}, True, False, (0, 1), 'a b c : r(a b) s(b c)'],
        )
        self.assertEqual(
            [RING.lines[3], str(RING.without_clause(("t", ("a", "c")))),
             str(PATH.folded({"a": "a", "b": "a", "c": "c"})), str(TWICE.folded({"a": "x", "b": "y", "c": "x"}))],
            ['asked', ': r(a b) s(b c)', 'a c : r(a a) s(a c)', 'x : r(x y)'],
        )
        self.assertEqual(
            [are_alike(TWICE, TWICE.renamed({"a": "c", "b": "d", "c": "a"})), are_alike(PATH, RING), str(PATH + RING),
             ("r", ("a", "b")) in PATH, str(TWICE.spread)],
            [True, False, 'a c : r(a b) s(b c) t(a c)', True, 'a : ca(a b) cb(c b)'],
        )

    def test_stores(self):
        self.assertEqual(
            [str(STORE), STORE.tables, STORE.rows("s"), STORE.domain, ("r", (1, 2)) in STORE, fits(STORE, PATH),
             fits(STORE.without_table("t"), RING)],
            ['store of 3 tables, 7 rows', {'r': 2, 's': 2, 't': 2}, ((2, 5), (3, 5), (3, 6)), (1, 2, 3, 4, 5, 6), True,
             True, False],
        )
        self.assertEqual(
            [frozen(TWICE).lines, frozen_answer(TWICE), len(STORE * STORE), (STORE * STORE).rows("t"),
             STORE.without_row("t", (4, 6)).lines[0]],
            [('row r 0 1', 'row r 2 1'), (0,), 19, ((32, 48),), 'table t 2'],
        )

    def test_readings(self):
        self.assertEqual(
            [list(each_reading(PATH, STORE)), counts(PATH, STORE), answers(TWICE, STORE), is_answered(RING, STORE)],
            [[(1, 2, 5), (1, 3, 5), (1, 3, 6), (4, 3, 5), (4, 3, 6)], {(1, 5): 2, (1, 6): 1, (4, 5): 1, (4, 6): 1},
             ((1,), (4,)), True],
        )
        self.assertEqual(
            [count_readings(TWICE, STORE), count_of(TWICE, STORE, (1,)), list(each_reading(RING, STORE)),
             rows_read(RING, STORE, (4, 3, 6)), is_reading(PATH, STORE, (1, 2, 6))],
            [5, 3, [(4, 3, 6)], ((4, 3), (3, 6), (4, 6)), False],
        )

    def test_maps(self):
        WAY = Question.from_lines("clause r a b", "clause r b c", "clause r c d", "asked a")
        SELF = Question.from_lines("clause r x x", "asked x")
        self.assertEqual(
            [find_map(WAY, SELF), find_map(SELF, WAY), has_all_answers(WAY, SELF), has_all_answers(SELF, WAY),
             count_maps(TWICE, TWICE), list(each_map(TWICE, TWICE))[0]],
            [{'a': 'x', 'b': 'x', 'c': 'x', 'd': 'x'}, None, True, False, 2, {'a': 'a', 'b': 'b', 'c': 'a'}],
        )
        store, answer = lost_answer(SELF, WAY)
        self.assertEqual(
            [is_lost_answer(SELF, WAY, (store, answer)), is_lost_answer(SELF, WAY, (frozen(WAY), (0,))),
             lost_answer(WAY, SELF), least_union((SELF, WAY, TWICE))],
            [True, True, None, (2,)],
        )

    def test_cores(self):
        self.assertEqual(
            [is_core(TWICE), str(core_of(TWICE)), [str(core) for core in each_core(TWICE.asking())],
             folding_onto(TWICE, core_of(TWICE)), merging_map(RING)],
            [False, 'a : r(a b)', [': r(a b)', ': r(c b)'], {'a': 'a', 'b': 'b', 'c': 'a'}, None],
        )
        SIX = Question.from_lines("clause e a b", "clause e b a", "clause e b c", "clause e c b", "clause e c d",
                                  "clause e d c")
        self.assertEqual(
            [len(core_of(SIX)), count_turns(core_of(SIX)), len(list(each_core(SIX))), len(spare_clauses(SIX)),
             spare_clauses(TWICE), count_turns(RING)],
            [2, 2, 3, 6, (('r', ('c', 'b')),), 1],
        )

    def test_counts(self):
        SINGLE = Question.from_lines("clause r a b", "asked a")
        self.assertEqual(
            [same_answers(TWICE, SINGLE), same_counts(TWICE, SINGLE), count_onto(TWICE, SINGLE),
             count_onto(SINGLE, TWICE), same_counts(PATH, PATH.renamed({"a": "c", "b": "a", "c": "b"}))],
            [True, False, 1, 0, True],
        )
        store, answer = parting_count(TWICE, SINGLE)
        self.assertEqual(
            [is_parting_count(TWICE, SINGLE, (store, answer)), is_parting_count(TWICE, SINGLE, (frozen(TWICE), (0,))),
             is_parting_count(TWICE, SINGLE, (frozen(SINGLE), (0,)))],
            [True, True, False],
        )
        LEFT = Store.from_lines("row e 1 2", "row e 2 1", "row e 3 4", "row e 4 3")
        RIGHT = Store.from_lines("row e 1 2", "row e 2 3", "row e 3 4", "row e 4 1")
        self.assertEqual(
            [are_alike_stores(LEFT, RIGHT), str(question_of(RIGHT)),
             is_parting_question(LEFT, RIGHT, Question.from_lines("clause e a b", "clause e b a")),
             count_injections(LEFT, LEFT), count_injections(LEFT, RIGHT)],
            [False, ': e(a b) e(b c) e(c d) e(d a)', True, 8, 0],
        )

    def test_whences(self):
        some = whence_of(TWICE, STORE, (1,))
        self.assertEqual(
            [str(some), some.ways, some.needed, some.evaluated({("r", (1, 3)): 5}), some.least({("r", (1, 2)): 3}),
             some.greatest({("r", (1, 2)): 3, ("r", (4, 3)): 1})],
            ['r(1 2)^2 + r(1 3) r(4 3) + r(1 3)^2', 3, (), 31, 0, 6],
        )
        self.assertEqual(
            [str(whence_of(PATH, STORE, (1, 5))), str(whence_of(PATH, STORE, (2, 2))),
             str(some.without((("r", (1, 3)),))), lost_with(PATH, STORE, (("s", (3, 6)),))],
            ['r(1 2) s(2 5) + r(1 3) s(3 5)', '0', 'r(1 2)^2', ((1, 6), (4, 6))],
        )
        step = Whence({(("r", (1, 2), 1),): 2, (): 1})
        self.assertEqual(
            [str(step), str(step * step), str(step + step), str(some.put_in("r", (1, 2), step)),
             len(whences(PATH, STORE)), str(whences(RING, STORE)[()])],
            ['1 + 2 r(1 2)', '1 + 4 r(1 2) + 4 r(1 2)^2', '2 + 4 r(1 2)',
             '1 + 4 r(1 2) + 4 r(1 2)^2 + r(1 3) r(4 3) + r(1 3)^2', 4, 'r(4 3) s(3 6) t(4 6)'],
        )
        once = Question.from_lines("clause r a b", "asked a")
        self.assertEqual(
            [is_parting_whence(once, TWICE, parting_whence(once, TWICE)),
             parting_whence(TWICE, TWICE.renamed({"a": "c", "b": "b", "c": "a"})),
             is_parting_whence(once, TWICE, (STORE, (9,)))],
            [True, None, False],
        )

    def test_trees_and_knots(self):
        self.assertEqual(
            [join_tree(PATH), knot_of(RING), knot_of(LOOP), join_tree(RING), is_cutting(PATH, ((1, 0),)),
             tree_of(((1, 0), (2, 0)))],
            [((0, 1),), ('crown', ('a', 'b', 'c')), ('ring', ('a', 'b', 'c', 'd')), None, True, ((0, 1), (0, 2))],
        )
        stuck = stuck_by(LOOP, ("ring", ("a", "b", "c", "d")))
        self.assertEqual(
            [stuck.rows("r"), stuck.rows("u"), is_stuck(LOOP, stuck), is_answered(LOOP, stuck),
             stuck_by(RING, ("crown", ("a", "b", "c"))).lines, stuck_store(PATH)],
            [((0, 0), (1, 1)), ((0, 1), (1, 0)), True, False,
             ('row r 0 1', 'row r 1 0', 'row s 0 1', 'row s 1 0', 'row t 0 1', 'row t 1 0'), None],
        )
        self.assertEqual(
            [are_agreeing(PATH, STORE), is_knot(RING, ("ring", ("a", "b", "c"))),
             join_tree(Question.from_lines("clause r a b", "clause s b c", "clause t a c", "clause u a b c"))],
            [True, False, ((0, 3), (1, 3), (2, 3))],
        )

    def test_programs(self):
        self.assertEqual(
            [left_by(PATH, STORE, ((0, 1), (1, 0))), read_rows(RING, STORE), full_reducer(RING),
             len(full_reducer(PATH)), is_full_reducer(PATH, ((0, 1),))],
            [(((1, 2), (1, 3), (4, 3)), ((2, 5), (3, 5), (3, 6))), (((4, 3),), ((3, 6),), ((4, 6),)), None, 2, False],
        )
        self.assertEqual(
            [is_full_reducer(PATH, ((1, 0), (0, 1))), missed_store(PATH, ((0, 1), (1, 0))),
             count_copies(PATH, ((1, 0), (0, 1)), 0), is_full_reducer(RING, ((0, 1), (1, 2), (2, 0), (0, 1)))],
            [True, None, 3, False],
        )

    def test_bounds(self):
        ONE = {"r": (1, 1), "s": (1, 1), "t": (1, 1)}
        TWO = {"r": (1, 1), "s": (1, 1)}
        self.assertEqual(
            [size_bound(RING.full, ONE, ()), least_covering(RING.full, ONE, ()), size_bound(PATH, TWO, ()),
             size_bound(PATH, TWO, (("s", 0, 1),))],
            [(3, 2), (('r', (1, 2)), ('s', (1, 2)), ('t', (1, 2))), (2, 1), (1, 1)],
        )
        self.assertEqual(
            [reached_by(PATH, (("s", 0, 1),)), keeps_keys(STORE, (("s", 0, 1),)), broken_key(STORE, (("s", 0, 1),)),
             keeps_keys(STORE, (("s", 1, 0),))],
            [{'r': ('a', 'b', 'c'), 's': ('b', 'c')}, False, (('s', 0, 1), (3, 5), (3, 6)), False],
        )
        halves = (("a", (1, 2)), ("b", (1, 2)), ("c", (1, 2)))
        worst = worst_store(RING.full, ONE, (), halves, 2)
        self.assertEqual(
            [len(worst), len(answers(RING.full, worst)), count_worst(RING.full, ONE, (), halves, 2),
             let_by(RING.full, (), least_covering(RING.full, ONE, ()), worst)],
            [12, 8, 8, 8],
        )
        self.assertEqual(
            worst_store(PATH, TWO, (("s", 0, 1),), (("a", (1, 2)), ("c", (1, 2))), 2).lines,
            ('row r 0 0', 'row r 0 1', 'row r 1 0', 'row r 1 1', 'row s 0 0', 'row s 1 1'),
        )

    def test_layers(self):
        self.assertEqual(
            [is_layered(PATH, ("a", "b", "c")), is_layered(PATH, ("a", "c", "b")), count_layered(PATH),
             layered_order(RING), layered_order(PATH, begin=("a", "c"))],
            [True, False, 4, None, None],
        )
        self.assertEqual(
            [layer_paper(PATH, ("b", "a", "c"))[0], layer_paper(PATH, ("c", "a", "b")),
             layer_paper(RING, ("c", "a", "b")), is_layer_paper(PATH, ("b", "a", "c"), ("homes", (0, 0, 1)))],
            ['homes', ('trio', 'a', 'c', 'b'), ('crown', ('a', 'b', 'c')), True],
        )
        ranked = Ranked(PATH, STORE, ("b", "c", "a"))
        self.assertEqual(
            [ranked.total, ranked.reading_at(2), ranked.index((1, 3, 6)), ranked.below((3, 6)), ranked.with_head((3,)),
             ranked.part(3, 5), str(ranked)],
            [5, (4, 3, 5), 3, 3, (1, 4), ((1, 3, 6), (4, 3, 6)), '5 readings by b c a'],
        )
        self.assertEqual(
            [ranked.count_heads(2), ranked.head_at(2, 1), ranked.head_index((3, 6)), ranked.count_heads(0),
             (1, 2, 6) in ranked],
            [3, (3, 5), 2, 1, False],
        )
        with self.assertRaises(NotLayered):
            Ranked(PATH, STORE, ("a", "c", "b"))

    def test_bags(self):
        self.assertEqual(
            [width_of(PATH), width_of(RING), width_of(LOOP),
             is_bag_tree(PATH, ((("b", "c"), ("a", "b")), ((0, 1),))),
             is_bag_tree(RING, ((("a", "b"), ("b", "c")), ((0, 1),)))],
            [1, 2, 2, True, False],
        )
        self.assertEqual(
            [order_width(LOOP, ("a", "b", "c", "d")), order_width(PATH, ("b", "a", "c")),
             is_least_order(PATH, ("a", "b", "c")), is_least_order(PATH, ("b", "a", "c"))],
            [2, 2, True, False],
        )
        self.assertEqual(
            [bag_rows(PATH, STORE, ("a", "c")), count_by_bags(PATH, STORE, ((("a", "b"), ("b", "c")), ((0, 1),))),
             count_by_bags(RING, STORE, bag_tree(RING))],
            [((1, 5), (1, 6), (4, 5), (4, 6)), 5, 1],
        )

    def test_escapes(self):
        self.assertEqual(
            [lots_behind(PATH, ("b",)), lots_behind(RING, ()), escape_table(PATH, 1), escape_table(RING, 1)[("a",)],
             escape_table(RING, 1)[("a", "b")]],
            [(('a',), ('c',)), (('a', 'b', 'c'),), None, ('b', 'c'), ('c',)],
        )
        table = {(): ("a", "b", "c"), ("a",): ("b", "c"), ("b",): ("c",), ("c",): ("a", "b")}
        self.assertEqual(
            [is_escape_table(PATH, 0, table), flight(PATH, 0, table, (("b",), ("c",), ())), width_paper(PATH, 1)[0],
             width_paper(RING, 1)[0], is_width_paper(RING, 2, ("bags", ((("a", "b", "c"),), ())))],
            [True, (('c',), ('a', 'b'), ('a', 'b', 'c')), 'bags', 'escape', True],
        )

    def test_the_four_objects(self):
        self.assertEqual(PATH.lines, ("clause r a b", "clause s b c", "asked a c"))
        self.assertEqual(RING.lines, ("clause r a b", "clause s b c", "clause t a c", "asked"))
        self.assertEqual(TWICE.lines, ("clause r a b", "clause r c b", "asked a"))
        self.assertEqual(STORE.lines, ("row r 1 2", "row r 1 3", "row r 4 3", "row s 2 5", "row s 3 5", "row s 3 6",
                                       "row t 4 6"))


if __name__ == "__main__":
    unittest.main()
