"""Points 0.11 to 0.26: all parts of the program agree with one another."""

import random
import unittest

from joinhouse.base.questions import Question, are_alike
from joinhouse.base.readings import answers, count_readings, counts, each_reading, is_answered, rows_read
from joinhouse.base.stores import Store, fits, frozen, frozen_answer, spread_store
from joinhouse.change.forests import Tally, crossing_of, forest_of, is_forest, open_forest, way_to
from joinhouse.count.alike import are_alike_stores, is_parting_count, is_parting_question, parting_count, same_counts
from joinhouse.count.whence import is_parting_whence, parting_whence, whences
from joinhouse.fold.cores import core_of, each_core
from joinhouse.fold.maps import find_map, has_all_answers, is_lost_answer, lost_answer, same_answers
from joinhouse.order.layers import Ranked, is_layered, layered_order
from joinhouse.shape.knots import are_agreeing, is_stuck, knot_of, stuck_store
from joinhouse.shape.reducers import full_reducer, is_full_reducer, left_by, read_rows
from joinhouse.shape.trees import join_tree
from joinhouse.size.bounds import (
    greatest_filling,
    is_greatest_filling,
    is_least_covering,
    least_covering,
    let_by,
    price_of,
    size_bound,
    worth_of,
)
from joinhouse.split.chase import are_told_apart, is_lossless, is_normal_split, joined_rows, normal_split, split_question, split_store
from joinhouse.split.rules import Scheme, keeps
from joinhouse.strike.lines import forced_numbers, is_strike_paper, line_of, strike_paper, trio_of
from joinhouse.text.texts import read_question, read_store, write_question, write_store
from joinhouse.use.bench import Bench
from joinhouse.width.bags import bag_tree, width_by, width_of
from joinhouse.width.escapes import escape_table, is_width_paper, width_paper
from joinhouse.work.ways import count_all, counts_by_all, tree_counts
from tests.brute import all_answers, all_readings, asking, shape, some_question, some_scheme, some_shape, some_store, store_for, table
from tests.samples import PATH, RING, TWICE


def drawn(chance, at):
    """A question and a store that fits it, by chance."""
    if at % 2:
        return some_question(chance, letters="abc", most=4), some_store(chance, most=5, values=3)
    question = some_shape(chance, letters="abcde"[:chance.randint(2, 5)], most=5)
    return question, store_for(chance, question, most=5)


def numbers_of(question, store):
    """The number of readings, checked to be the same in all parts that tell one."""
    many = len(all_readings(question, store))
    told = [count_readings(question, store), len(list(each_reading(question, store))), sum(counts(question, store).values()),
            sum(whence.ways for whence in whences(question, store).values()), Bench(question, store).total,
            count_all(question, store), *counts_by_all(question, store).values()]
    if join_tree(question) is not None:
        told.append(Ranked(question, store, layered_order(question)).total)
        told.extend(sum(some) for some in tree_counts(question, store, join_tree(question)))
    if forest_of(question) is not None:
        told.append(Tally(question, forest_of(question), store).total)
    spread = spread_store(question, store) if len(question) < 9 else None
    told.append(count_readings(question.spread, spread))
    assert told == [many] * len(told), (question.lines, store.lines, told)
    return many


class StoresTest(unittest.TestCase):

    def test_one_number_everywhere(self):
        chance = random.Random(1)
        numbers = set()
        for at in range(150):
            question, store = drawn(chance, at)
            many = numbers_of(question, store)
            numbers.add(many)
            self.assertIs(is_answered(question, store), many > 0)
            self.assertEqual(counts(question, store), all_answers(question, store))
            self.assertEqual(tuple(whences(question, store)), answers(question, store))
        self.assertGreater(len(numbers), 7)

    def test_tallies_and_counts(self):
        chance = random.Random(2)
        some = 0
        for at in range(120):
            question, store = drawn(chance, at)
            forest = open_forest(question)
            if forest is not None:
                tally = Tally(question, forest, store)
                for answer, many in counts(question, store).items():
                    self.assertEqual(tally.counted(answer), many)
                    some += 1
                order = tuple(sorted(question.columns, key=lambda column: len(way_to(forest, column))))
                self.assertIs(is_layered(question, order), True)
        self.assertGreater(some, 50)

    def test_every_store_that_a_bench_comes_to(self):
        chance = random.Random(3)
        for at in range(12):
            question, store = drawn(chance, at)
            bench = Bench(question, store)
            for _ in range(8):
                name = chance.choice(sorted(bench.store.tables))
                row = tuple(chance.choices(bench.store.domain or (0,), k=bench.store.tables[name]))
                change = bench.take if row in bench.store.rows(name) else bench.put
                change(name, row)
                self.assertEqual(numbers_of(bench.question, bench.store), bench.total)
            bench.shrink()
            self.assertEqual(numbers_of(bench.question, bench.store), bench.total)
            before = answers(question, bench.store)
            self.assertEqual(answers(bench.question, bench.store), before)
            if bench.question.is_plain:
                readings = list(each_reading(bench.question, bench.store))
                bench.reduce()
                self.assertEqual(list(each_reading(bench.question, bench.store)), readings)

    def test_other_names(self):
        chance = random.Random(4)
        for at in range(80):
            question, store = drawn(chance, at)
            columns = dict(zip(question.columns, chance.sample(["x", "aa", "zz", "q", "b", "m", "n", "k"], len(question.columns))))
            names = sorted(store.tables)
            tables = dict(zip(names, chance.sample(["ra", "zb", "tc", "kd", "me", "af", "gg", "hh", "ii"][:max(9, len(names))],
                                                   len(names))))
            values = dict(zip(store.domain, chance.sample(range(99), len(store.domain))))
            other = question.renamed(columns).retabled({name: tables[name] for name in question.tables})
            moved = store.renamed(values)
            moved = Store({tables[name]: width for name, width in moved.tables.items()},
                          {tables[name]: moved.rows(name) for name in moved.tables})
            self.assertEqual(numbers_of(other, moved), numbers_of(question, store))
            self.assertEqual({tuple(values[one] for one in answer): many for answer, many in counts(question, store).items()},
                             counts(other, moved))
            for call in (join_tree, layered_order, line_of, forest_of, open_forest):
                self.assertEqual(call(question) is None, call(other) is None)
            self.assertEqual((width_of(question), question.is_plain, len(core_of(question))),
                             (width_of(other), other.is_plain, len(core_of(other))))
            if question.is_plain and line_of(question) is not None:
                self.assertEqual(len(strike_paper(question, store)[0]), len(strike_paper(other, moved)[0]))

    def test_products_and_sums_of_stores(self):
        chance = random.Random(5)
        for at in range(60):
            question, one = drawn(chance, at)
            other = one
            while other == one:
                other = Store(one.tables, {name: tuple(chance.sample(one.rows(name), chance.randint(0, len(one.rows(name)))))
                                           for name in one.tables})
                if not len(one):
                    break
            if max(one.domain, default=0) < 10 ** 9:
                self.assertEqual(numbers_of(question, one * other), numbers_of(question, one) * numbers_of(question, other))
            both = one + other
            self.assertGreaterEqual(count_all(question, both), max(count_all(question, one), count_all(question, other)))
            self.assertTrue(set(answers(question, other)) <= set(answers(question, both)))

    def test_questions_side_by_side(self):
        chance = random.Random(6)
        for at in range(60):
            one, store = drawn(chance, at)
            other = some_question(chance, letters="ab", most=2, tables="r") if at % 2 else one
            if not fits(store, other) or len(one) + len(other) > 8 or len(one.columns) + len(other.columns) > 8:
                continue
            apart = other.renamed({column: "z" + column for column in other.columns})
            both = one + apart
            self.assertEqual(numbers_of(both, store), numbers_of(one, store) * numbers_of(other, store))
            for call in (join_tree, forest_of, line_of):
                self.assertEqual(call(both) is None, call(one) is None or call(other) is None)
            self.assertEqual(width_of(both), max(width_of(one), width_of(other)))

    def test_texts(self):
        chance = random.Random(7)
        for at in range(40):
            question, store = drawn(chance, at)
            self.assertEqual(numbers_of(read_question(write_question(question)), read_store(write_store(store))),
                             numbers_of(question, store))


class QuestionsTest(unittest.TestCase):

    def test_answers_in_all_stores(self):
        chance = random.Random(11)
        seen = [0, 0]
        for _ in range(150):
            one = some_question(chance, letters="abc", tables="rt", most=3, many=1)
            other = some_question(chance, letters="abc", tables="rt", most=3, many=1)
            right = find_map(one, other) is not None
            self.assertIs(has_all_answers(one, other), right)
            lost = lost_answer(one, other)
            self.assertEqual(lost is None, right)
            self.assertTrue(right or is_lost_answer(one, other, lost))
            frozen_store = frozen(other) + Store(one.tables, {})
            self.assertEqual(frozen_answer(other) in answers(one, frozen_store), right)
            self.assertEqual(same_answers(one, other), are_alike(core_of(one), core_of(other)))
            seen[right] += 1
            store = some_store(chance, tables="rt", most=5, values=3)
            if right:
                self.assertTrue(set(answers(other, store)) <= set(answers(one, store)))
            self.assertEqual(answers(one, store), answers(core_of(one), store))
            self.assertTrue(all(are_alike(core, core_of(one)) for core in each_core(one)))
        self.assertGreater(min(seen), 20)

    def test_counts_and_whences_in_all_stores(self):
        chance = random.Random(12)
        seen = [0, 0]
        for at in range(120):
            one = some_question(chance, letters="abc", tables="rt", most=3, many=1)
            other = one.renamed(dict(zip(one.columns, chance.sample(one.columns, len(one.columns))))) if at % 2 else (
                some_question(chance, letters="abc", tables="rt", most=3, many=1))
            right = are_alike(one, other)
            self.assertIs(same_counts(one, other), right)
            parted, whence = parting_count(one, other), parting_whence(one, other)
            self.assertEqual((parted is None, whence is None), (right, right))
            if not right:
                self.assertIs(is_parting_count(one, other, parted), True)
                self.assertIs(is_parting_whence(one, other, whence), True)
            seen[right] += 1
        self.assertGreater(min(seen), 20)

    def test_shapes_go_together(self):
        chance = random.Random(13)
        seen = [0, 0]
        for at in range(150):
            question = some_shape(chance, letters="abcdef", most=6)
            tree = join_tree(question) is not None
            self.assertEqual([knot_of(question) is None, layered_order(question) is not None, full_reducer(question) is not None,
                              stuck_store(question) is None], [tree] * 4)
            self.assertEqual(crossing_of(question) is None, forest_of(question) is not None)
            self.assertEqual(line_of(question) is None, trio_of(question) is not None)
            # A question with a line, or a forest, has a join tree.
            self.assertTrue(tree or (line_of(question) is None and forest_of(question) is None))
            if not tree:
                self.assertTrue(is_stuck(question, stuck_store(question)))
                self.assertEqual(count_all(question, stuck_store(question)), 0)
            elif len(question) <= 5:
                self.assertIs(is_full_reducer(question, full_reducer(question)), True)
                store = store_for(chance, question)
                self.assertEqual(left_by(question, store, full_reducer(question)), read_rows(question, store))
            seen[tree] += 1
        self.assertGreater(min(seen), 10)

    def test_spread_questions(self):
        chance = random.Random(14)
        for at in range(80):
            question, store = drawn(chance, at)
            spread, there = question.spread, spread_store(question, store)
            self.assertEqual(list(each_reading(spread, there)), list(each_reading(question, store)))
            self.assertEqual((join_tree(question) is None, layered_order(question) is None), (full_reducer(spread) is None,) * 2)
            for reading in list(each_reading(question, store))[:5]:
                self.assertEqual(rows_read(spread, there, reading), rows_read(question, store, reading))

    def test_widths(self):
        chance = random.Random(15)
        for _ in range(60):
            question = some_shape(chance, letters="abcde", most=6)
            width = width_of(question)
            self.assertEqual(width_by(question, bag_tree(question)), width)
            for at in range(5):
                self.assertEqual(escape_table(question, at) is None, width <= at)
                self.assertEqual(width_paper(question, at)[0], "bags" if width <= at else "escape")
                self.assertIs(is_width_paper(question, at, width_paper(question, at)), True)
            # Join trees make bags of the clauses.
            if join_tree(question) is not None:
                self.assertLessEqual(width + 1, max(len(set(columns)) for _, columns in question.clauses))

    def test_sizes_and_answers(self):
        chance = random.Random(16)
        for at in range(60):
            question = some_shape(chance, letters="abcd", most=4)
            sizes = {name: (1, 1) for name in question.tables}
            covering, filling = least_covering(question, sizes, ()), greatest_filling(question, sizes, ())
            bound = size_bound(question, sizes, ())
            self.assertEqual((price_of(question, sizes, covering), worth_of(filling)), (bound, bound))
            self.assertIs(is_least_covering(question, sizes, (), covering), True)
            self.assertIs(is_greatest_filling(question, sizes, (), filling), True)
            store = store_for(chance, question)
            if all(store.rows(name) for name in question.tables):
                self.assertLessEqual(len(answers(question, store)), let_by(question, (), covering, store))

    def test_strikes(self):
        chance = random.Random(17)
        some = 0
        for _ in range(80):
            question = some_shape(chance, letters="abcd", most=4)
            store = store_for(chance, question, most=4)
            if line_of(question) is not None:
                strike, load = strike_paper(question, store)
                self.assertIs(is_strike_paper(question, store, (strike, load)), True)
                for whence in whences(question, store).values():
                    self.assertEqual(len(whence.without(strike)), 0)
                bench = Bench(question, store)
                for name, row in strike:
                    bench.take(name, row)
                self.assertEqual(bench.total, 0)
                if count_all(question, store) <= 16:
                    self.assertEqual(forced_numbers(question, store), (len(strike), sum(times for _, times in load)))
                    some += 1
        self.assertGreater(some, 20)

    def test_splits(self):
        chance = random.Random(18)
        for _ in range(80):
            scheme = some_scheme(chance, letters="abcd", most=4)
            split = normal_split(scheme)
            self.assertIs(is_normal_split(scheme, split), True)
            rows = tuple(sorted({tuple(chance.choices(range(2), k=4)) for _ in range(4)}))
            question, store = split_question(scheme, split), split_store(scheme, split, rows)
            self.assertEqual(answers(question, store), joined_rows(scheme, split, rows))
            self.assertEqual(numbers_of(question, store), len(joined_rows(scheme, split, rows)))
            if keeps(scheme, rows):
                self.assertEqual(joined_rows(scheme, split, rows), rows)


class UntrueTest(unittest.TestCase):
    """One example against each sentence of point 0.26."""

    def test_the_same_answers_and_other_counts(self):
        single = asking("r a b", "asked a")
        self.assertTrue(same_answers(TWICE, single))
        self.assertFalse(same_counts(TWICE, single))

    def test_a_part_without_a_join_tree(self):
        whole = RING.with_clause(("u", ("a", "b", "c")))
        self.assertIsNotNone(join_tree(whole))
        self.assertIsNone(join_tree(whole.without_clause(("u", ("a", "b", "c")))))

    def test_tables_that_agree_without_a_reading(self):
        stuck = stuck_store(RING)
        self.assertTrue(are_agreeing(RING, stuck))
        self.assertEqual(count_all(RING, stuck), 0)

    def test_an_order_that_is_not_layered(self):
        self.assertIsNotNone(join_tree(PATH))
        self.assertFalse(is_layered(PATH, ("a", "c", "b")))

    def test_bags_of_three_columns_without_a_knot(self):
        wide = asking("w a b c")
        self.assertIsNone(knot_of(wide))
        self.assertEqual(width_of(wide), 2)

    def test_more_struck_rows_than_readings_without_a_common_row(self):
        points = ((0, 1, 2), (3, 1, 2), (3, 4, 2), (3, 4, 5), (6, 4, 5), (6, 7, 5), (6, 7, 8), (0, 7, 8), (0, 1, 8))
        store = Store(RING.tables, {"r": tuple({(a, b) for a, b, _ in points}), "s": tuple({(b, c) for _, b, c in points}),
                                    "t": tuple({(a, c) for a, _, c in points})})
        self.assertEqual(forced_numbers(RING, store), (5, 4))

    def test_a_split_without_loss_whose_parts_do_not_tell_a_rule(self):
        scheme = Scheme.from_lines("columns a b c d", "rule a -> b", "rule b c -> d")
        self.assertTrue(is_lossless(scheme, (("a", "b"), ("a", "c", "d"))))
        self.assertFalse(are_told_apart(scheme, (("a", "b"), ("a", "c", "d"))))

    def test_stores_with_as_many_rows_and_values(self):
        left = table("e", (1, 2), (2, 1), (3, 4), (4, 3))
        right = table("e", (1, 2), (2, 3), (3, 4), (4, 1))
        self.assertEqual((len(left), left.domain), (len(right), right.domain))
        pair = Question.from_lines("clause e a b", "clause e b a")
        self.assertEqual((count_all(pair, left), count_all(pair, right)), (4, 0))
        self.assertFalse(are_alike_stores(left, right))
        self.assertTrue(is_parting_question(left, right, pair))

    def test_a_forest_is_more_than_a_join_tree(self):
        chain = shape("ab", "bc", "cd")
        self.assertIsNotNone(join_tree(chain))
        self.assertIsNone(forest_of(chain))
        self.assertFalse(is_forest(chain, (("a", "b"), ("b", None), ("c", "b"), ("d", "c"))))


if __name__ == "__main__":
    unittest.main()
