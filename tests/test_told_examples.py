"""All examples of the document, in their order, as they stand there."""

import importlib
import pathlib
import pkgutil
import unittest

import joinhouse

FOLDER = pathlib.Path(joinhouse.__file__).resolve().parent

EXAMPLES = r"""
PATH = Question.from_lines("clause r a b", "clause s b c", "asked a c")
RING = Question.from_lines("clause r a b", "clause s b c", "clause t a c", "asked")
TWICE = Question.from_lines("clause r a b", "clause r c b", "asked a")
STORE = Store.from_lines("row r 1 2", "row r 1 3", "row r 4 3", "row s 2 5", "row s 3 5", "row s 3 6", "row t 4 6")
>>> [is_integer(-7), is_count(True), is_name("ab1"), are_names(()), is_row((0, 7)), is_row(()), is_naming(("a", "b"), {"a": "b", "b": "a"}), coprime(6, 4)]
[True, False, False, True, True, False, True, (3, 2)]
>>> [str(PATH), PATH.columns, PATH.tables, PATH.is_plain, TWICE.is_plain, PATH.having("b"), str(PATH.full)]
['a c : r(a b) s(b c)', ('a', 'b', 'c'), {'r': 2, 's': 2}, True, False, (0, 1), 'a b c : r(a b) s(b c)']
>>> [RING.lines[3], str(RING.without_clause(("t", ("a", "c")))), str(PATH.folded({"a": "a", "b": "a", "c": "c"})), str(TWICE.folded({"a": "x", "b": "y", "c": "x"}))]
['asked', ': r(a b) s(b c)', 'a c : r(a a) s(a c)', 'x : r(x y)']
>>> [are_alike(TWICE, TWICE.renamed({"a": "c", "b": "d", "c": "a"})), are_alike(PATH, RING), str(PATH + RING), ("r", ("a", "b")) in PATH, str(TWICE.spread)]
[True, False, 'a c : r(a b) s(b c) t(a c)', True, 'a : ca(a b) cb(c b)']
>>> [str(STORE), STORE.tables, STORE.rows("s"), STORE.domain, ("r", (1, 2)) in STORE, fits(STORE, PATH), fits(STORE.without_table("t"), RING)]
['store of 3 tables, 7 rows', {'r': 2, 's': 2, 't': 2}, ((2, 5), (3, 5), (3, 6)), (1, 2, 3, 4, 5, 6), True, True, False]
>>> [frozen(TWICE).lines, frozen_answer(TWICE), len(STORE * STORE), (STORE * STORE).rows("t"), STORE.without_row("t", (4, 6)).lines[0]]
[('row r 0 1', 'row r 2 1'), (0,), 19, ((32, 48),), 'table t 2']
>>> [list(each_reading(PATH, STORE)), counts(PATH, STORE), answers(TWICE, STORE), is_answered(RING, STORE)]
[[(1, 2, 5), (1, 3, 5), (1, 3, 6), (4, 3, 5), (4, 3, 6)], {(1, 5): 2, (1, 6): 1, (4, 5): 1, (4, 6): 1}, ((1,), (4,)), True]
>>> [count_readings(TWICE, STORE), count_of(TWICE, STORE, (1,)), list(each_reading(RING, STORE)), rows_read(RING, STORE, (4, 3, 6)), is_reading(PATH, STORE, (1, 2, 6))]
[5, 3, [(4, 3, 6)], ((4, 3), (3, 6), (4, 6)), False]
>>> WAY = Question.from_lines("clause r a b", "clause r b c", "clause r c d", "asked a")
>>> SELF = Question.from_lines("clause r x x", "asked x")
>>> [find_map(WAY, SELF), find_map(SELF, WAY), has_all_answers(WAY, SELF), has_all_answers(SELF, WAY), count_maps(TWICE, TWICE), list(each_map(TWICE, TWICE))[0]]
[{'a': 'x', 'b': 'x', 'c': 'x', 'd': 'x'}, None, True, False, 2, {'a': 'a', 'b': 'b', 'c': 'a'}]
>>> store, answer = lost_answer(SELF, WAY)
>>> [is_lost_answer(SELF, WAY, (store, answer)), is_lost_answer(SELF, WAY, (frozen(WAY), (0,))), lost_answer(WAY, SELF), least_union((SELF, WAY, TWICE))]
[True, True, None, (2,)]
>>> [is_core(TWICE), str(core_of(TWICE)), [str(core) for core in each_core(TWICE.asking())], folding_onto(TWICE, core_of(TWICE)), merging_map(RING)]
[False, 'a : r(a b)', [': r(a b)', ': r(c b)'], {'a': 'a', 'b': 'b', 'c': 'a'}, None]
>>> SIX = Question.from_lines("clause e a b", "clause e b a", "clause e b c", "clause e c b", "clause e c d", "clause e d c")
>>> [len(core_of(SIX)), count_turns(core_of(SIX)), len(list(each_core(SIX))), len(spare_clauses(SIX)), spare_clauses(TWICE), count_turns(RING)]
[2, 2, 3, 6, (('r', ('c', 'b')),), 1]
>>> SINGLE = Question.from_lines("clause r a b", "asked a")
>>> [same_answers(TWICE, SINGLE), same_counts(TWICE, SINGLE), count_onto(TWICE, SINGLE), count_onto(SINGLE, TWICE), same_counts(PATH, PATH.renamed({"a": "c", "b": "a", "c": "b"}))]
[True, False, 1, 0, True]
>>> store, answer = parting_count(TWICE, SINGLE)
>>> [is_parting_count(TWICE, SINGLE, (store, answer)), is_parting_count(TWICE, SINGLE, (frozen(TWICE), (0,))), is_parting_count(TWICE, SINGLE, (frozen(SINGLE), (0,)))]
[True, True, False]
>>> LEFT = Store.from_lines("row e 1 2", "row e 2 1", "row e 3 4", "row e 4 3")
>>> RIGHT = Store.from_lines("row e 1 2", "row e 2 3", "row e 3 4", "row e 4 1")
>>> [are_alike_stores(LEFT, RIGHT), str(question_of(RIGHT)), is_parting_question(LEFT, RIGHT, Question.from_lines("clause e a b", "clause e b a")), count_injections(LEFT, LEFT), count_injections(LEFT, RIGHT)]
[False, ': e(a b) e(b c) e(c d) e(d a)', True, 8, 0]
>>> some = whence_of(TWICE, STORE, (1,))
>>> [str(some), some.ways, some.needed, some.evaluated({("r", (1, 3)): 5}), some.least({("r", (1, 2)): 3}), some.greatest({("r", (1, 2)): 3, ("r", (4, 3)): 1})]
['r(1 2)^2 + r(1 3) r(4 3) + r(1 3)^2', 3, (), 31, 0, 6]
>>> [str(whence_of(PATH, STORE, (1, 5))), str(whence_of(PATH, STORE, (2, 2))), str(some.without((("r", (1, 3)),))), lost_with(PATH, STORE, (("s", (3, 6)),))]
['r(1 2) s(2 5) + r(1 3) s(3 5)', '0', 'r(1 2)^2', ((1, 6), (4, 6))]
>>> step = Whence({(("r", (1, 2), 1),): 2, (): 1})
>>> [str(step), str(step * step), str(step + step), str(some.put_in("r", (1, 2), step)), len(whences(PATH, STORE)), str(whences(RING, STORE)[()])]
['1 + 2 r(1 2)', '1 + 4 r(1 2) + 4 r(1 2)^2', '2 + 4 r(1 2)', '1 + 4 r(1 2) + 4 r(1 2)^2 + r(1 3) r(4 3) + r(1 3)^2', 4, 'r(4 3) s(3 6) t(4 6)']
>>> once = Question.from_lines("clause r a b", "asked a")
>>> [is_parting_whence(once, TWICE, parting_whence(once, TWICE)), parting_whence(TWICE, TWICE.renamed({"a": "c", "b": "b", "c": "a"})), is_parting_whence(once, TWICE, (STORE, (9,)))]
[True, None, False]
>>> LOOP = Question.from_lines("clause r a b", "clause s b c", "clause t c d", "clause u a d")
>>> [join_tree(PATH), knot_of(RING), knot_of(LOOP), join_tree(RING), is_cutting(PATH, ((1, 0),)), tree_of(((1, 0), (2, 0)))]
[((0, 1),), ('crown', ('a', 'b', 'c')), ('ring', ('a', 'b', 'c', 'd')), None, True, ((0, 1), (0, 2))]
>>> stuck = stuck_by(LOOP, ("ring", ("a", "b", "c", "d")))
>>> [stuck.rows("r"), stuck.rows("u"), is_stuck(LOOP, stuck), is_answered(LOOP, stuck), stuck_by(RING, ("crown", ("a", "b", "c"))).lines, stuck_store(PATH)]
[((0, 0), (1, 1)), ((0, 1), (1, 0)), True, False, ('row r 0 1', 'row r 1 0', 'row s 0 1', 'row s 1 0', 'row t 0 1', 'row t 1 0'), None]
>>> [are_agreeing(PATH, STORE), is_knot(RING, ("ring", ("a", "b", "c"))), join_tree(Question.from_lines("clause r a b", "clause s b c", "clause t a c", "clause u a b c"))]
[True, False, ((0, 3), (1, 3), (2, 3))]
>>> [left_by(PATH, STORE, ((0, 1), (1, 0))), read_rows(RING, STORE), full_reducer(RING), len(full_reducer(PATH)), is_full_reducer(PATH, ((0, 1),))]
[(((1, 2), (1, 3), (4, 3)), ((2, 5), (3, 5), (3, 6))), (((4, 3),), ((3, 6),), ((4, 6),)), None, 2, False]
>>> [is_full_reducer(PATH, ((1, 0), (0, 1))), missed_store(PATH, ((0, 1), (1, 0))), count_copies(PATH, ((1, 0), (0, 1)), 0), is_full_reducer(RING, ((0, 1), (1, 2), (2, 0), (0, 1)))]
[True, None, 3, False]
>>> ONE = {"r": (1, 1), "s": (1, 1), "t": (1, 1)}
>>> TWO = {"r": (1, 1), "s": (1, 1)}
>>> [size_bound(RING.full, ONE, ()), least_covering(RING.full, ONE, ()), size_bound(PATH, TWO, ()), size_bound(PATH, TWO, (("s", 0, 1),))]
[(3, 2), (('r', (1, 2)), ('s', (1, 2)), ('t', (1, 2))), (2, 1), (1, 1)]
>>> [reached_by(PATH, (("s", 0, 1),)), keeps_keys(STORE, (("s", 0, 1),)), broken_key(STORE, (("s", 0, 1),)), keeps_keys(STORE, (("s", 1, 0),))]
[{'r': ('a', 'b', 'c'), 's': ('b', 'c')}, False, (('s', 0, 1), (3, 5), (3, 6)), False]
>>> halves = (("a", (1, 2)), ("b", (1, 2)), ("c", (1, 2)))
>>> worst = worst_store(RING.full, ONE, (), halves, 2)
>>> [len(worst), len(answers(RING.full, worst)), count_worst(RING.full, ONE, (), halves, 2), let_by(RING.full, (), least_covering(RING.full, ONE, ()), worst)]
[12, 8, 8, 8]
>>> worst_store(PATH, TWO, (("s", 0, 1),), (("a", (1, 2)), ("c", (1, 2))), 2).lines
('row r 0 0', 'row r 0 1', 'row r 1 0', 'row r 1 1', 'row s 0 0', 'row s 1 1')
>>> [is_layered(PATH, ("a", "b", "c")), is_layered(PATH, ("a", "c", "b")), count_layered(PATH), layered_order(RING), layered_order(PATH, begin=("a", "c"))]
[True, False, 4, None, None]
>>> [layer_paper(PATH, ("b", "a", "c"))[0], layer_paper(PATH, ("c", "a", "b")), layer_paper(RING, ("c", "a", "b")), is_layer_paper(PATH, ("b", "a", "c"), ("homes", (0, 0, 1)))]
['homes', ('trio', 'a', 'c', 'b'), ('crown', ('a', 'b', 'c')), True]
>>> ranked = Ranked(PATH, STORE, ("b", "c", "a"))
>>> [ranked.total, ranked.reading_at(2), ranked.index((1, 3, 6)), ranked.below((3, 6)), ranked.with_head((3,)), ranked.part(3, 5), str(ranked)]
[5, (4, 3, 5), 3, 3, (1, 4), ((1, 3, 6), (4, 3, 6)), '5 readings by b c a']
>>> [ranked.count_heads(2), ranked.head_at(2, 1), ranked.head_index((3, 6)), ranked.count_heads(0), (1, 2, 6) in ranked]
[3, (3, 5), 2, 1, False]
>>> Ranked(PATH, STORE, ("a", "c", "b"))
raises NotLayered
>>> [width_of(PATH), width_of(RING), width_of(LOOP), is_bag_tree(PATH, ((("b", "c"), ("a", "b")), ((0, 1),))), is_bag_tree(RING, ((("a", "b"), ("b", "c")), ((0, 1),)))]
[1, 2, 2, True, False]
>>> [order_width(LOOP, ("a", "b", "c", "d")), order_width(PATH, ("b", "a", "c")), is_least_order(PATH, ("a", "b", "c")), is_least_order(PATH, ("b", "a", "c"))]
[2, 2, True, False]
>>> [bag_rows(PATH, STORE, ("a", "c")), count_by_bags(PATH, STORE, ((("a", "b"), ("b", "c")), ((0, 1),))), count_by_bags(RING, STORE, bag_tree(RING))]
[((1, 5), (1, 6), (4, 5), (4, 6)), 5, 1]
>>> [lots_behind(PATH, ("b",)), lots_behind(RING, ()), escape_table(PATH, 1), escape_table(RING, 1)[("a",)], escape_table(RING, 1)[("a", "b")]]
[(('a',), ('c',)), (('a', 'b', 'c'),), None, ('b', 'c'), ('c',)]
>>> table = {(): ("a", "b", "c"), ("a",): ("b", "c"), ("b",): ("c",), ("c",): ("a", "b")}
>>> [is_escape_table(PATH, 0, table), flight(PATH, 0, table, (("b",), ("c",), ())), width_paper(PATH, 1)[0], width_paper(RING, 1)[0], is_width_paper(RING, 2, ("bags", ((("a", "b", "c"),), ())))]
[True, (('c',), ('a', 'b'), ('a', 'b', 'c')), 'bags', 'escape', True]
>>> [is_line(PATH, (1, 0)), line_of(RING), is_trio(RING, (0, 1, 2, (0, 1), (0, 2), (1, 2))), is_trio(PATH, (0, 1, 1, (0, 1), (0, 1), (1, 1))), trio_of(PATH)]
[True, None, True, False, None]
>>> [len(cheapest_strike(PATH, STORE)), cheapest_strike(PATH, STORE, kept=("r",)), greatest_load(PATH, STORE, kept=("r",))[0][1], len(greatest_load(PATH, STORE))]
[3, (('s', (2, 5)), ('s', (3, 5)), ('s', (3, 6))), 1, 3]
>>> cheap = {("s", (3, 5)): 0, ("s", (3, 6)): 10 ** 20, ("r", (1, 3)): 7}
>>> [is_strike(PATH, STORE, (("r", (1, 2)), ("r", (1, 3)), ("r", (4, 3)))), sum([times for reading, times in greatest_load(PATH, STORE, prices=cheap)])]
[True, 9]
>>> [is_strike_paper(PATH, STORE, strike_paper(PATH, STORE, prices=cheap), prices=cheap), forced_numbers(PATH, STORE), forced_numbers(RING, STORE)]
[True, (3, 3), (1, 1)]
>>> points = ((0, 1, 2), (3, 1, 2), (3, 4, 2), (3, 4, 5), (6, 4, 5), (6, 7, 5), (6, 7, 8), (0, 7, 8), (0, 1, 8))
>>> rows = {"r": tuple([(a, b) for a, b, c in points]), "s": tuple([(b, c) for a, b, c in points]), "t": tuple([(a, c) for a, b, c in points])}
>>> forced_numbers(RING, Store({"r": 2, "s": 2, "t": 2}, {name: tuple(sorted(set(some))) for name, some in rows.items()}))
(5, 4)
>>> scheme = Scheme.from_lines("columns a b c d", "rule a -> b", "rule b c -> d")
>>> [closure(scheme, ("a", "c")), least_keys(scheme), derivation(scheme, (("a", "c"), ("d",))), parting_pair(scheme, (("b",), ("d",))) is None, scheme.lines[2]]
[('a', 'b', 'c', 'd'), (('a', 'c'),), (0, 1), False, 'rule b c -> d']
>>> [is_lossless(scheme, (("a", "b"), ("a", "c", "d"))), chased(scheme, (("a", "b"), ("b", "c", "d"))), is_lossless(scheme, (("a", "b"), ("b", "c", "d")))]
[True, ((0, 0, 1, 1), (2, 0, 0, 0)), False]
>>> [joined_rows(scheme, (("a", "b"), ("b", "c", "d")), ((0, 0, 1, 1), (2, 0, 0, 0))), is_normal_part(scheme, ("a", "b", "c")), are_told_apart(scheme, (("a", "b"), ("a", "c", "d")))]
[((0, 0, 0, 0), (0, 0, 1, 1), (2, 0, 0, 0), (2, 0, 1, 1)), False, False]
>>> [str(split_question(scheme, (("a", "b"), ("b", "c", "d")))), is_chase_run(scheme, (("a", "b"), ("a", "c", "d")), ((0, 0, 1),))]
['a b c d : pa(a b) pb(b c d)', True]
>>> [crossing_of(PATH), forest_of(PATH), is_crossing(RING, (("a", "b"), (0, 2, 1))), forest_of(RING), is_bar(PATH, ("above", "b", "a")), open_forest(PATH)]
[None, (('a', 'b'), ('b', None), ('c', 'b')), True, None, True, None]
>>> tally = Tally(PATH.asking("b", "a"), forest_of(PATH), STORE)
>>> [str(tally), tally.number_at("b", (3,)), tally.sum_at("c", (3,)), tally.number_at("a", (3, 1)), tally.counted((3, 1)), tally.counted((5, 5))]
['tally of 3 columns, 5 readings', 4, 2, 1, 2, 0]
>>> [tally.put("s", (2, 6)), tally.total, tally.take("r", (4, 3)), tally("put", "t", (7, 7)), way_to(forest_of(PATH), "c"), len(tally)]
[(('b', (2,), 2), ('c', (2, 6), 1)), 6, (('a', (3, 4), 0), ('b', (3,), 2)), (), ('b', 'c'), 3]
>>> [counts_by_all(PATH, STORE), applies(RING, STORE, "tree"), count_by(RING, STORE, "bags"), tree_counts(PATH, STORE, ((0, 1),))]
[{'readings': 5, 'tree': 5, 'layers': 5, 'bags': 5, 'whence': 5, 'forest': 5, 'maps': 5}, False, 1, ((1, 2, 2), (1, 2, 2))]
>>> wide = Store({"r": 2, "s": 2}, {"r": tuple([(i, 0) for i in range(1000)]), "s": tuple([(0, j) for j in range(1000)])})
>>> [count_all(PATH, wide), applies(PATH, wide, "readings"), count_by(PATH, wide, "tree")]
[1000000, False, 1000000]
>>> bench = Bench(PATH, STORE)
>>> [bench.total, bench.demand(("tree",)), bench.put("s", (2, 6)), bench.adjoin(("t", ("a", "b"))), str(bench), ("tree",) in bench, "asked a c" in bench]
[5, (), (5, 6), (6, 0), 'bench of 3 clauses, 8 rows, 1 pledges', True, True]
>>> bench.adjoin(("r", ("a", "c")))
raises Refused
>>> [bench.undo(many=2), bench.reduce(), len(bench.store), bench.during(lambda same: same.ask("b")), bench.demand(("key", "t", 0, 1))]
[(0, 5), (), 7, (), ()]
>>> [read_question("asked b\nclause s b c\nclause r a b").lines, write_map({"b": "x", "a": "x"}), read_map("b=y a=x"), write_links(((0, 1), (2, 1)))]
[('clause r a b', 'clause s b c', 'asked b'), 'a=x b=x', {'a': 'x', 'b': 'y'}, '0-1 2-1']
>>> [read_links("-"), write_knot(("crown", ("a", "b", "c"))), read_knot("ring a b c d"), read_store("row r 2 1\ntable s 1").lines]
[(), 'crown a b c', ('ring', ('a', 'b', 'c', 'd')), ('table s 1', 'row r 2 1')]
>>> shell = Shell(write_question(PATH), write_store(STORE))
>>> [shell("total"), shell("answers"), shell("count 1 5"), shell("tree"), shell("knot"), shell("width"), shell("bound"), shell("strike")]
['5', '1 5: 2; 1 6: 1; 4 5: 1; 4 6: 1', '2', '0-1', 'none', '1', '2/1', '3']
>>> [shell("put s 2 6"), shell("demand least 6"), shell("take s 2 6"), shell("join t a c"), shell("knot"), shell("undo"), shell("demand line"), shell("forest"), shell("count 1"), len(shell)]
['from 5 to 6', 'nothing', 'refused least 6', 'refused least 6', 'none', 'nothing', 'nothing', 'a under b; b; c under b', '0', 15]
"""


def every_name():
    """A dict from all names of all modules of the package to what they stand for."""
    found = {}
    for module in pkgutil.walk_packages([str(FOLDER)], "joinhouse."):
        for name, value in vars(importlib.import_module(module.name)).items():
            if not name.startswith("_"):
                found[name] = value
    return found


class ToldExamplesTest(unittest.TestCase):

    def check(self, told, answer, names):
        """Checks one line behind which there is an answer."""
        if answer.startswith("raises "):
            with self.assertRaises(names[answer.removeprefix("raises ")]):
                eval(told, names)
        else:
            self.assertEqual(repr(eval(told, names)), repr(eval(answer, {})))

    def test_all(self):
        names = every_name()
        lines = EXAMPLES.strip("\n").split("\n")
        answers = [line for line in lines if not line.startswith(">>> ") and line.split(" ")[1:2] != ["="]]
        checked = []
        for line, answer in zip(lines, [*lines[1:], ""]):
            told = line.removeprefix(">>> ")
            if answer in answers:
                with self.subTest(line=told):
                    self.check(told, answer, names)
                checked.append(answer)
            elif line not in answers:
                exec(told, names)
        self.assertEqual(checked, answers)
        self.assertEqual(len(checked), 59)


if __name__ == "__main__":
    unittest.main()
