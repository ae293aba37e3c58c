"""Points 0.17, 9.3 and the functions of joinhouse.shape.knots on knots."""

import itertools
import random
import unittest

from joinhouse.base.questions import Question
from joinhouse.errors import InvalidQuestion
from joinhouse.shape.knots import is_knot, knot_of
from joinhouse.shape.trees import is_join_tree, join_tree
from tests.brute import asking, clause_sets, crown_of, ring_of, shape, some_question, some_shape
from tests.samples import PATH, RING, TWICE, VALUES, RefusingCase


def greatest_traces(question, columns):
    """The greatest traces of a set of columns, as point 9.3 tells them."""
    traces = {some & frozenset(columns) for some in clause_sets(question)}
    return {trace for trace in traces if not any(trace < other for other in traces)}


def is_ring_by_words(question, columns):
    if len(columns) < 4 or len(set(columns)) < len(columns) or not set(columns) <= set(question.columns):
        return False
    if columns[0] != min(columns) or not columns[1] < columns[-1]:
        return False
    pairs = {frozenset(pair) for pair in zip(columns, columns[1:] + columns[:1])}
    return greatest_traces(question, columns) == pairs


def is_crown_by_words(question, columns):
    if len(columns) < 3 or list(columns) != sorted(set(columns)) or not set(columns) <= set(question.columns):
        return False
    return greatest_traces(question, columns) == {frozenset(columns) - {column} for column in columns}


class KnotsTest(RefusingCase):

    def check(self, question):
        """Checks that there is either a join tree or a knot, and that both are judged right."""
        knot = knot_of(question)
        tree = join_tree(question)
        self.assertNotEqual(tree is None, knot is None)
        if knot is None:
            self.assertIs(is_join_tree(question, tree), True)
        else:
            by_words = {"ring": is_ring_by_words, "crown": is_crown_by_words}[knot[0]]
            self.assertTrue(by_words(question, knot[1]))
            self.assertIs(is_knot(question, knot), True)
        return knot

    def check_all(self, question):
        """Checks the judge at all tuples of columns."""
        found = 0
        for many in range(len(question.columns) + 2):
            for columns in itertools.product((*question.columns, "q"), repeat=many):
                ring, crown = is_ring_by_words(question, columns), is_crown_by_words(question, columns)
                self.assertIs(is_knot(question, ("ring", columns)), ring)
                self.assertIs(is_knot(question, ("crown", columns)), crown)
                found += ring + crown
        self.assertEqual(found > 0, knot_of(question) is not None)

    def test_by_chance(self):
        chance = random.Random(1)
        words = []
        for at in range(1200):
            letters, most, wide = (("abcd", 5, 3), ("abcdef", 8, 2), ("abcde", 8, 4), ("abcdefgh", 8, 3))[at % 4]
            many = most if at % 2 else None
            knot = self.check(some_shape(chance, letters=letters, most=most, wide=wide, many=many))
            words.append(knot and knot[0])
        for word in ("ring", "crown", None):
            self.assertGreater(words.count(word), 20)

    def test_questions_that_are_not_plain(self):
        chance = random.Random(2)
        found = [self.check(some_question(chance, letters="abcde", most=6)) is None for _ in range(400)]
        self.assertGreater(min(found.count(True), found.count(False)), 20)
        self.assertIsNone(self.check(TWICE))

    def test_all_tuples_of_columns(self):
        chance = random.Random(3)
        for question in (PATH, RING, TWICE, ring_of("abcd"), ring_of("acbd"), crown_of("abcd"),
                         shape("ab", "bc", "cd", "da", "ac"), shape("ab", "ba", "bc", "cb", "ca"),
                         shape("aab", "bcc", "ca", "d"), *[some_shape(chance, letters="abcd") for _ in range(25)]):
            self.check_all(question)

    def test_rings(self):
        for many in range(4, 9):
            columns = "abcdefgh"[:many]
            self.assertEqual(knot_of(ring_of(columns)), ("ring", tuple(columns)))
        self.assertEqual(knot_of(ring_of("aebdcf")), ("ring", ("a", "e", "b", "d", "c", "f")))
        self.assertEqual(knot_of(ring_of("acbd")), ("ring", ("a", "c", "b", "d")))
        self.assertEqual(knot_of(ring_of("adbc")), ("ring", ("a", "c", "b", "d")))

    def test_crowns(self):
        for many in range(3, 9):
            self.assertEqual(knot_of(crown_of("abcdefgh"[:many])), ("crown", tuple("abcdefgh"[:many])))
        self.assertEqual(knot_of(RING), ("crown", ("a", "b", "c")))
        self.assertEqual(knot_of(shape("bdx", "cdy", "bcz", "xyz")), ("crown", ("b", "c", "d")))

    def test_turned_columns(self):
        six = ring_of("abcdef")
        right = tuple("abcdef")
        self.assertIs(is_knot(six, ("ring", right)), True)
        for columns in ("bcdefa", "fabcde", "afedcb", "fedcba", "acbdef", "abcde", "abcdefa", "abccef", "abcdeg", "bcdef",
                        "abdcef", ""):
            self.assertIs(is_knot(six, ("ring", tuple(columns))), False, columns)
        four = crown_of("abcd")
        self.assertIs(is_knot(four, ("crown", tuple("abcd"))), True)
        for columns in ("abdc", "dcba", "bcda", "abc", "abcde", "aabcd", "abcc", ""):
            self.assertIs(is_knot(four, ("crown", tuple(columns))), False, columns)

    def test_triangles_are_no_rings(self):
        self.assertIs(is_knot(RING, ("ring", ("a", "b", "c"))), False)
        self.assertIs(is_knot(RING, ("crown", ("a", "b", "c"))), True)
        self.assertIs(is_knot(shape("ab", "ac"), ("crown", ("a", "b"))), False)
        self.assertIs(is_knot(shape("a", "b"), ("crown", ("a", "b"))), False)

    def test_a_greater_trace_is_in_the_way(self):
        self.assertIs(is_knot(asking("r a b", "s b c", "t a c", "u a b c"), ("crown", ("a", "b", "c"))), False)
        chord = shape("ab", "bc", "cd", "da", "ac")
        self.assertIs(is_knot(chord, ("ring", tuple("abcd"))), False)
        self.assertEqual(knot_of(chord)[0], "crown")
        self.assertIs(is_knot(shape("ab", "bc", "cd", "dax", "a"), ("ring", tuple("abcd"))), True)

    def test_no_knots(self):
        four = ring_of("abcd")
        for value in (
            *VALUES, ("ring",), ("ring", tuple("abcd"), ()), ["ring", tuple("abcd")], ("ring", list("abcd")),
            ("ring", "abcd"), ("crown", tuple("abcd")), ("knot", tuple("abcd")), (True, tuple("abcd")),
            (None, tuple("abcd")), ("ring", ("a", "b", "c", 1)), ("ring", ("a", "b", "c", ["d"])), ("ring", None),
            ("ring", {"a": "b"}), (["ring"], tuple("abcd")), (PATH, tuple("abcd")), ("ring", (True, "b", "c", "d")),
        ):
            self.assertIs(is_knot(four, value), False, value)
            self.assertIs(is_knot(PATH, value), False, value)
        self.assertIs(is_knot(four, ("ring", tuple("abcd"))), True)

    def test_wrong_questions(self):
        for value in VALUES:
            if not isinstance(value, Question):
                self.refused(InvalidQuestion, knot_of, value)
                self.refused(InvalidQuestion, is_knot, value, ("crown", ("a", "b", "c")))
                self.refused(InvalidQuestion, is_knot, value, value)


if __name__ == "__main__":
    unittest.main()
