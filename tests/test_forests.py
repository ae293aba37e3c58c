"""Points 0.23, 16.1 to 16.3: crossings, forests and bars."""

import itertools
import random
import unittest

from joinhouse.base.questions import Question
from joinhouse.change.forests import (
    bar_of,
    crossing_of,
    forest_of,
    is_bar,
    is_crossing,
    is_forest,
    is_open,
    open_forest,
    way_to,
)
from joinhouse.errors import InvalidForest, InvalidQuestion, UnknownName
from joinhouse.order.layers import is_layered
from joinhouse.shape.trees import join_tree
from tests.brute import asking, clause_sets, ring_of, shape, some_question, some_shape
from tests.samples import LOOP, PATH, RING, TWICE, VALUES, RefusingCase

SINGLE = asking("r a b", "asked b")
DEEP = shape("abcdefgh", "abcdefg", "abcdef", "abcde", "abcd", "abc", "ab", "a", asked="ab")
CHAIN = shape("ab", "bc", "cd")


def is_crossing_by_words(question, value):
    (one, other), (i, j, k) = value
    sets = clause_sets(question)
    return one < other and {one, other} <= sets[i] and one in sets[j] and other not in sets[j] and (
        other in sets[k] and one not in sets[k])


def all_crossings(question):
    every = range(len(question))
    return [value for value in itertools.product(itertools.product(question.columns, repeat=2),
                                                 itertools.product(every, repeat=3))
            if is_crossing_by_words(question, value)]


def way_by_words(aboves, column):
    """The way to a column, or None if it does not end."""
    way = []
    while column is not None:
        if column in way:
            return None
        way.append(column)
        column = aboves[column]
    return way[::-1]


def is_forest_by_words(question, value):
    aboves = dict(value)
    ways = [way_by_words(aboves, column) for column in question.columns]
    return None not in ways and all(some in [frozenset(way) for way in ways] for some in clause_sets(question))


def all_candidates(question):
    """All tuples of pairs of a column and of another one above it, or None."""
    choices = [[(column, above) for above in (None, *question.columns)] for column in question.columns]
    return list(itertools.product(*choices))


def all_forests(question):
    return [value for value in all_candidates(question) if is_forest_by_words(question, value)]


def is_open_by_words(question, forest):
    aboves = dict(forest)
    return all(set(way_by_words(aboves, column)) <= set(question.asked) for column in question.asked)


def is_above_by_words(question, one, other):
    sets = clause_sets(question)
    ones, others = [at for at, some in enumerate(sets) if one in some], [at for at, some in enumerate(sets) if other in some]
    return other in question.asked and one not in question.asked and set(others) < set(ones)


def drawn(chance, at):
    if at % 2:
        question = some_question(chance, letters="abcd")
    else:
        question = some_shape(chance, letters="abcde"[:chance.randint(2, 5)], most=4)
    return question


class CrossingsTest(RefusingCase):

    def test_either_a_crossing_or_a_forest(self):
        chance = random.Random(1)
        seen = [0, 0]
        for at in range(300):
            question = drawn(chance, at)
            crossing, forest = crossing_of(question), forest_of(question)
            self.assertEqual(crossing is None, forest is not None)
            if crossing is None:
                self.assertTrue(is_forest_by_words(question, forest))
                self.assertIs(is_forest(question, forest), True)
                # The columns of a question with a forest make a layered order from the top on.
                self.assertIsNotNone(join_tree(question))
                order = sorted(question.columns, key=lambda column: len(way_to(forest, column)))
                self.assertIs(is_layered(question, tuple(order)), True)
            else:
                self.assertTrue(is_crossing_by_words(question, crossing))
                self.assertIs(is_crossing(question, crossing), True)
            seen[crossing is None] += 1
        self.assertGreater(min(seen), 50)

    def test_all_crossings(self):
        chance = random.Random(2)
        seen = 0
        questions = [RING, LOOP, CHAIN, shape("abc", "ab", "bc", "ac"), *[drawn(chance, at) for at in range(60)]]
        for question in questions:
            right = all_crossings(question)
            self.assertEqual(bool(right), crossing_of(question) is not None)
            for value in itertools.product(itertools.product(question.columns, repeat=2),
                                           itertools.product(range(-1, len(question) + 1), repeat=3)):
                self.assertIs(is_crossing(question, value), value in right)
            seen += len(right)
        self.assertGreater(seen, 30)

    def test_crossings(self):
        value = (("a", "b"), (0, 2, 1))
        self.assertIs(is_crossing(RING, value), True)
        for bent in (
            *VALUES, (("b", "a"), (0, 1, 2)), (("a", "b"), (0, 1, 2)), (("a", "b"), (0, 2)), (("a", "b"), (0, 2, 1, 1)),
            [("a", "b"), (0, 2, 1)], (["a", "b"], (0, 2, 1)), (("a", "b"), [0, 2, 1]), (("a", "b", "c"), (0, 2, 1)),
            (("a",), (0, 2, 1)), (("a", "a"), (0, 2, 1)), (("a", "d"), (0, 2, 1)), (("a", "b"), (False, 2, 1)),
            (("a", "b"), (0, 2, True)), (("a", "b"), (0, 2, 3)), (("a", "b"), (0, 2, -2)), (("a", "b"),), (*value, ()),
            (("a", None), (0, 2, 1)), (("a", ["b"]), (0, 2, 1)), ("ab", (0, 2, 1)), (("a", "b"), (0, 2, None)),
        ):
            self.assertIs(is_crossing(RING, bent), False, bent)
        self.assertIs(is_crossing(PATH, value), False)
        self.assertIsNone(crossing_of(TWICE))
        self.assertIsNotNone(crossing_of(CHAIN))
        self.assertIsNotNone(crossing_of(LOOP))
        # A clause that has both is needed.
        self.assertIsNone(crossing_of(shape("a", "b")))

    def test_wrong_questions(self):
        for value in VALUES:
            if not isinstance(value, Question):
                for call in (crossing_of, forest_of, open_forest, bar_of):
                    self.refused(InvalidQuestion, call, value)
                for call in (is_crossing, is_forest, is_open, is_bar):
                    self.refused(InvalidQuestion, call, value, value)


class ForestsTest(RefusingCase):

    def test_all_forests(self):
        chance = random.Random(3)
        seen = 0
        for at in range(50):
            question = drawn(chance, at)
            if len(question.columns) <= 4:
                right = all_forests(question)
                for value in all_candidates(question):
                    self.assertIs(is_forest(question, value), value in right)
                self.assertTrue(forest_of(question) in right if right else forest_of(question) is None)
                seen += bool(right)
        self.assertGreater(seen, 20)

    def test_forests(self):
        self.assertEqual(forest_of(PATH), (("a", "b"), ("b", None), ("c", "b")))
        right = (("a", "b"), ("b", None), ("c", "b"))
        for value in (
            *VALUES, right[::-1], right[:2], (*right, ("d", None)), list(right), (("a", "b"), ("b", None), ("c", "a")),
            (("a", "b"), ("b", "a"), ("c", "b")), (("a", "b"), ("b", "b"), ("c", "b")), (("a", None), ("b", None), ("c", "b")),
            (("a", "b"), ("b", None), ("c", "d")), (("a", "b"), ["b", None], ("c", "b")), (("a", "b"), ("b", ()), ("c", "b")),
            (("a", "b"), ("b",), ("c", "b")), (("a", "b"), ("b", None, None), ("c", "b")), (*right, right[2]),
            (("a", "b"), ("b", False), ("c", "b")), (("a", ["b"]), ("b", None), ("c", "b")), dict(right),
        ):
            self.assertIs(is_forest(PATH, value), False, value)
        self.assertIs(is_forest(PATH, right), True)
        self.assertEqual(len(all_forests(SINGLE)), 2)
        self.assertEqual(len(all_forests(TWICE)), 1)
        self.assertEqual(forest_of(DEEP), tuple(zip("abcdefgh", (None, *"abcdefg"))))
        for question in (RING, LOOP, CHAIN, ring_of("abcde")):
            self.assertIsNone(forest_of(question))

    def test_columns_apart(self):
        loose = shape(*"abcdefgh")
        self.assertEqual(forest_of(loose), tuple((column, None) for column in "abcdefgh"))
        self.assertIs(is_forest(loose, (("a", None), *[(column, "a") for column in "bcdefgh"])), False)


class BarsTest(RefusingCase):

    def test_either_an_open_forest_or_a_bar(self):
        chance = random.Random(4)
        seen = [0, 0, 0]
        for at in range(400):
            question = drawn(chance, at)
            forest, bar = open_forest(question), bar_of(question)
            self.assertEqual(forest is None, bar is not None)
            if forest is not None:
                self.assertTrue(is_forest_by_words(question, forest) and is_open_by_words(question, forest))
                self.assertIs(is_open(question, forest), True)
                seen[0] += 0 < len(question.asked) < len(question.columns)
            else:
                self.assertIs(is_bar(question, bar), True)
                seen[1 if bar[0] == "cross" else 2] += 1
        self.assertGreater(min(seen), 20)

    def test_all_forests_and_bars(self):
        chance = random.Random(5)
        some = 0
        for at in range(60):
            question = drawn(chance, at)
            if len(question.columns) <= 4:
                forests = all_forests(question)
                opened = [forest for forest in forests if is_open_by_words(question, forest)]
                for forest in forests:
                    self.assertIs(is_open(question, forest), forest in opened)
                self.assertEqual(bool(opened), open_forest(question) is not None)
                for one, other in itertools.product(question.columns, repeat=2):
                    self.assertIs(is_bar(question, ("above", one, other)), is_above_by_words(question, one, other))
                for crossing in all_crossings(question):
                    self.assertIs(is_bar(question, ("cross", *crossing)), True)
                some += 0 < len(opened) < len(forests)
        self.assertGreater(some, 2)

    def test_columns_in_the_same_clauses(self):
        # Both are in one clause alone, so that either can stand above the other one.
        self.assertEqual(open_forest(SINGLE), (("a", "b"), ("b", None)))
        self.assertEqual(open_forest(SINGLE.asking("a")), (("a", None), ("b", "a")))
        self.assertIsNone(bar_of(SINGLE))
        self.assertIs(is_open(SINGLE, (("a", None), ("b", "a"))), False)
        self.assertIs(is_open(SINGLE.full, (("a", None), ("b", "a"))), True)
        self.assertIs(is_open(SINGLE.asking(), (("a", None), ("b", "a"))), True)

    def test_bars(self):
        self.assertIs(is_bar(PATH, ("above", "b", "a")), True)
        self.assertIs(is_bar(PATH, ("above", "b", "c")), True)
        self.assertIs(is_bar(RING, ("cross", ("a", "b"), (0, 2, 1))), True)
        for value in (
            *VALUES, ("above", "a", "b"), ("above", "a", "c"), ("above", "b", "b"), ("above", "b"), ("above", "b", "a", "c"),
            ["above", "b", "a"], ("below", "b", "a"), ("above", ("b", "a")), ("above", "d", "a"), ("above", "b", "d"),
            ("above", None, "a"), ("above", "b", ["a"]), ("cross", "b", "a"), ("cross", ("a", "b"), (0, 1, 0)), (None, "b", "a"),
            ("above", True, "a"), ("cross", ("b", "c"), (1, 0, 1)),
        ):
            self.assertIs(is_bar(PATH, value), False, value)
        for value in (("cross", ("a", "b"), (0, 1, 2)), ("cross", (("a", "b"), (0, 2, 1))), ("crossing", ("a", "b"), (0, 2, 1)),
                      (("a", "b"), (0, 2, 1)), ("above", ("a", "b"), (0, 2, 1))):
            self.assertIs(is_bar(RING, value), False, value)
        # A column in the same clauses is no bar, and one that is asked is none.
        self.assertIs(is_bar(SINGLE, ("above", "a", "b")), False)
        self.assertIs(is_bar(PATH.full, ("above", "b", "a")), False)

    def test_wrong_forests(self):
        for value in (*VALUES, (("a", "b"), ("b", "a"), ("c", "b")), (("a", None), ("b", None), ("c", None)),
                      (("c", "b"), ("b", None), ("a", "b"))):
            self.refused(InvalidForest, is_open, PATH, value)
            self.refused(InvalidForest, is_open, RING, value)


class WaysTest(RefusingCase):

    def test_ways(self):
        forest = (("a", "c"), ("b", None), ("c", "d"), ("d", None), ("zzzzzzzz", "a"))
        self.assertEqual([way_to(forest, column) for column in ("a", "b", "c", "d", "zzzzzzzz")],
                         [("d", "c", "a"), ("b",), ("d", "c"), ("d",), ("d", "c", "a", "zzzzzzzz")])
        self.assertEqual(way_to(forest_of(PATH), "c"), ("b", "c"))

    def test_long_ways(self):
        letters = "abcdefghijklmnopqrst"
        names = [one + other + third for one in letters for other in letters for third in letters]
        forest = tuple(zip(names, [None, *names]))
        self.assertEqual(way_to(forest, names[-1]), tuple(names))
        self.refused(InvalidForest, way_to, ((names[0], names[-1]), *forest[1:]), names[0])

    def test_by_chance(self):
        chance = random.Random(6)
        seen = [0, 0]
        for _ in range(500):
            names = sorted(chance.sample("abcdefg", chance.randint(1, 6)))
            forest = tuple((name, chance.choice((None, *names))) for name in names)
            ways = {name: way_by_words(dict(forest), name) for name in names}
            for name in names:
                if None in ways.values():
                    self.refused(InvalidForest, way_to, forest, name)
                else:
                    self.assertEqual(way_to(forest, name), tuple(ways[name]))
            seen[None in ways.values()] += 1
        self.assertGreater(min(seen), 50)

    def test_wrong_forests(self):
        for value in (
            *[value for value in VALUES if value != ()], (("a", "a"),), (("a", "b"), ("b", "a")), (("b", None), ("a", None)),
            (("a", None), ("a", None)), (("a", None), ("a", "a")), (("a", "b"),), [("a", None)], (["a", None],), (("a",),),
            (("a", None, None),), (("A", None),), (("a", ()),), (("a", False),), (("a", ["a"]),), ("a", None), {"a": None},
            (("a", "b"), ("b", None), None), ((None, None),), (("abcdefghi", None),), (("a", "A"), ("b", None)),
        ):
            self.refused(InvalidForest, way_to, value, "a")
            self.refused(InvalidForest, way_to, value, None)

    def test_unknown_names(self):
        for value in VALUES:
            if value not in ("a",):
                self.refused(UnknownName, way_to, (("a", None), ("b", "a")), value, keeps=("word", value))
        for value in (*VALUES, "a"):
            self.refused(UnknownName, way_to, (), value, keeps=("word", value))


if __name__ == "__main__":
    unittest.main()
