"""Points 0.19, 12.1, 12.2 and the functions of joinhouse.order.layers."""

import itertools
import random
import unittest

from joinhouse.base.questions import Question
from joinhouse.errors import InvalidOperation, InvalidQuestion
from joinhouse.order import layers
from joinhouse.order.layers import count_layered, is_layer_paper, is_layered, layer_paper, layered_order
from joinhouse.shape.knots import is_knot
from joinhouse.shape.trees import join_tree
from tests.brute import asking, clause_sets, crown_of, ring_of, shape, some_question, some_shape
from tests.samples import LOOP, PATH, RING, TWICE, VALUES, RefusingCase

STAR = shape("ab", "ac", "ad")


def neighbours(question):
    """For each column the set of its neighbours."""
    return {column: set().union(*[some for some in clause_sets(question) if column in some]) - {column}
            for column in question.columns}


def homes_by_words(question, order):
    """For each column in an order the indices of its homes, as point 12.2 tells them."""
    near = neighbours(question)
    return [
        [index for index, some in enumerate(clause_sets(question)) if near[column] & set(order[:at]) | {column} <= some]
        for at, column in enumerate(order)
    ]


def is_layered_by_words(question, order):
    return all(homes_by_words(question, order))


def is_trio_by_words(question, order, trio):
    one, other, last = trio
    near = neighbours(question)
    if not {one, other, last} <= set(order) or one >= other or other in near[one]:
        return False
    ahead = order[:order.index(last)]
    return one in ahead and other in ahead and one in near[last] and other in near[last]


class LayeredOrdersTest(RefusingCase):

    def check(self, question):
        """Checks all orders of a question."""
        every = list(itertools.permutations(question.columns))
        right = [order for order in every if is_layered_by_words(question, order)]
        for order in every:
            self.assertIs(is_layered(question, order), order in right)
            self.check_paper(question, order, order in right)
        self.assertEqual(count_layered(question), len(right))
        self.assertEqual(bool(right), join_tree(question) is not None)
        for many in range(len(question.columns) + 1):
            for begin in itertools.permutations(question.columns, many):
                found = layered_order(question, begin=begin)
                if any(order[:many] == begin for order in right):
                    self.assertIn(found, right)
                    self.assertEqual(found[:many], begin)
                else:
                    self.assertIsNone(found)
        found = layered_order(question)
        self.assertTrue(found in right if right else found is None)
        return len(right), len(every)

    def check_paper(self, question, order, layered):
        paper = layer_paper(question, order)
        self.assertIs(is_layer_paper(question, order, paper), True)
        if layered:
            word, homes = paper
            self.assertEqual(word, "homes")
            self.assertTrue(all(home in some for home, some in zip(homes, homes_by_words(question, order))))
        elif paper[0] == "trio":
            self.assertEqual(len(paper), 4)
            self.assertTrue(is_trio_by_words(question, order, paper[1:]))
        else:
            self.assertEqual(paper[0], "crown")
            self.assertIs(is_knot(question, paper), True)

    def test_by_chance(self):
        chance = random.Random(1)
        some = 0
        for at in range(120):
            question = some_question(chance, letters="abcd") if at % 3 == 0 else some_shape(chance, letters="abcd")
            right, every = self.check(question)
            some += 0 < right < every
        self.assertGreater(some, 30)

    def test_five_columns(self):
        chance = random.Random(2)
        for _ in range(12):
            self.check(some_shape(chance, letters="abcde", many=5))
        for question in (PATH, RING, LOOP, TWICE, STAR, crown_of("abcd"), shape("ab", "cd"), shape("a", "b"), shape("aa"),
                         shape("abc", "bcd", "cde"), shape("ab", "bc", "ac", "abc"), ring_of("abcde")):
            self.check(question)

    def test_eight_columns(self):
        one = shape("abcdefgh")
        self.assertEqual(count_layered(one), 40320)
        loose = shape(*"abcdefgh")
        self.assertEqual(count_layered(loose), 40320)
        path = shape("ab", "bc", "cd", "de", "ef", "fg", "gh", "h")
        # Each order in which the columns lie side by side at all times, or begin apart but never meet from two sides.
        self.assertEqual(count_layered(path), 2 ** 7)
        self.assertEqual(count_layered(shape("ab", "cd", "ef", "gh")), 40320)
        self.assertEqual((count_layered(ring_of("abcdefgh")), count_layered(crown_of("abcdefgh"))), (0, 0))
        order = layered_order(path, begin=("e", "d", "f"))
        self.assertTrue(is_layered_by_words(path, order) and order[:3] == ("e", "d", "f"))
        self.assertIsNone(layered_order(path, begin=("a", "c")))
        chance = random.Random(3)
        for _ in range(40):
            question = some_shape(chance, letters="abcdefgh", many=8)
            found = layered_order(question)
            self.assertEqual(found is None, join_tree(question) is None)
            self.assertEqual(found is None, count_layered(question) == 0)
            if found is not None:
                self.assertTrue(is_layered_by_words(question, found))
            order = tuple(chance.sample(question.columns, len(question.columns)))
            self.check_paper(question, order, is_layered_by_words(question, order))

    def test_a_beginning_that_is_layered_and_does_not_go_on(self):
        # Both ends of the line are no neighbours, and what lies between comes behind them.
        self.assertIsNone(layered_order(PATH, begin=("a", "c")))
        self.assertIsNone(layered_order(PATH, begin=("c", "a")))
        self.assertEqual(layered_order(PATH, begin=("b", "c")), ("b", "c", "a"))
        self.assertEqual(layered_order(PATH, begin=("c", "b", "a")), ("c", "b", "a"))
        self.assertEqual(layers.MAX_PART, 2000)

    def test_no_orders(self):
        for value in (*VALUES, ("a", "b"), ("a", "b", "c", "c"), ("a", "b", "b"), ("a", "b", "d"), ["a", "b", "c"], "abc",
                      ("a", "b", ["c"]), ("a", "b", True), ("a", "b", "c", "d"), {"a": "b", "b": "c", "c": "a"}):
            self.assertIs(is_layered(PATH, value), False, value)
            self.refused(InvalidOperation, layer_paper, PATH, value)
            self.refused(InvalidOperation, is_layer_paper, PATH, value, ("homes", (0, 0, 1)))
            self.refused(InvalidOperation, is_layer_paper, PATH, value, value)

    def test_wrong_beginnings(self):
        for value in (*VALUES, ("a", "a"), ("a", "d"), ["a"], "a", ("a", "b", "c", "a"), ("a", None), ("a", ["b"])):
            if value not in ((), ("a",), ("a", "b")):
                with self.assertRaises(InvalidOperation):
                    layered_order(PATH, begin=value)
                with self.assertRaises(InvalidOperation):
                    layered_order(RING, begin=value)
        with self.assertRaises(TypeError):
            layered_order(PATH, ("a",))

    def test_wrong_questions(self):
        for value in VALUES:
            if not isinstance(value, Question):
                for function in (layered_order, count_layered):
                    self.refused(InvalidQuestion, function, value)
                self.refused(InvalidQuestion, layered_order, value, begin=value)
                for function in (is_layered, layer_paper):
                    self.refused(InvalidQuestion, function, value, ("a", "b", "c"))
                    self.refused(InvalidQuestion, function, value, value)
                self.refused(InvalidQuestion, is_layer_paper, value, value, value)


class LayerPapersTest(RefusingCase):

    def judge_all(self, question):
        """Checks the judge at all homes, trios and crowns, for all orders."""
        columns = (*question.columns, "q")
        crowns = [("crown", some) for many in range(2, 5) for some in itertools.permutations(columns, many)]
        seen = [0, 0, 0]
        for order in itertools.permutations(question.columns):
            homes = homes_by_words(question, order)
            for some in itertools.product(range(-1, len(question) + 1), repeat=len(order)):
                right = all(home in good for home, good in zip(some, homes))
                self.assertIs(is_layer_paper(question, order, ("homes", some)), right)
                seen[0] += right
            for trio in itertools.product(columns, repeat=3):
                right = is_trio_by_words(question, order, trio)
                self.assertIs(is_layer_paper(question, order, ("trio", *trio)), right)
                seen[1] += right
            for crown in crowns:
                right = is_knot(question, crown)
                self.assertIs(is_layer_paper(question, order, crown), right)
                seen[2] += right
            # Papers of just one kind exist.
            self.assertEqual(layer_paper(question, order)[0] == "homes", all(homes))
        return seen

    def test_all_papers(self):
        self.assertGreater(min(self.judge_all(PATH)[:2]), 0)
        self.assertGreater(self.judge_all(RING)[2], 0)
        for question in (STAR, shape("ab", "bc", "ac", "ad"), shape("ab", "c"), shape("abc", "bcd"), TWICE,
                         asking("r a b", "r b a", "t c")):
            self.judge_all(question)

    def test_rings_are_no_reasons(self):
        ring = ("ring", ("a", "b", "c", "d"))
        self.assertIs(is_knot(LOOP, ring), True)
        for order in itertools.permutations("abcd"):
            self.assertIs(is_layer_paper(LOOP, order, ring), False)
            self.assertEqual(layer_paper(LOOP, order)[0], "trio")

    def test_crowns(self):
        for many in (3, 4, 5):
            question = crown_of("abcdefgh"[:many])
            for order in itertools.permutations(question.columns):
                self.assertEqual(layer_paper(question, order), ("crown", question.columns))
        both = shape("abc", "abd", "acd", "bcd", "de", "ef")
        for order in itertools.permutations(both.columns):
            paper = layer_paper(both, order)
            self.assertIn(paper[0], ("trio", "crown"))
            self.assertIs(is_layer_paper(both, order, ("crown", ("a", "b", "c", "d"))), True)

    def test_no_papers(self):
        order = ("b", "a", "c")
        self.assertIs(is_layer_paper(PATH, order, ("homes", (0, 0, 1))), True)
        self.assertIs(is_layer_paper(PATH, order, ("homes", (1, 0, 1))), True)
        for value in (
            *VALUES, ("homes", (0, 0, 0)), ("homes", (0, 1, 1)), ("homes", (0, 0)), ("homes", (0, 0, 1, 1)),
            ("homes", [0, 0, 1]), ("homes", (False, 0, 1)), ("homes", (0, 0, True)), ["homes", (0, 0, 1)],
            ("homes", (0, 0, 1), ()), ("homes",), ("home", (0, 0, 1)), (0, 0, 1), ("homes", (0, 0, None)),
            ("trio", "a", "c", "b"), ("homes", (0, 0, -1)), ("homes", (0, 0, 2)), ("homes", "001"), (None, (0, 0, 1)),
        ):
            self.assertIs(is_layer_paper(PATH, order, value), False, value)
        order = ("a", "c", "b")
        self.assertIs(is_layer_paper(PATH, order, ("trio", "a", "c", "b")), True)
        for value in (
            *VALUES, ("trio", "c", "a", "b"), ("trio", "a", "b", "c"), ("trio", "a", "c"), ("trio", "a", "c", "b", "b"),
            ("trio", ("a", "c", "b")), ["trio", "a", "c", "b"], ("trio", "a", "c", "d"), ("trio", "a", "c", True),
            ("trio", "a", "c", ["b"]), ("crown", ("a", "b", "c")), ("crown", "a", "b", "c"), ("homes", (0, 1, 1)),
            ("homes", (0, 1, 0)), ("trio",), ("crown",), ("trio", 0, 2, 1),
        ):
            self.assertIs(is_layer_paper(PATH, order, value), False, value)


if __name__ == "__main__":
    unittest.main()
