"""Points 9.1, 9.2 and the functions of joinhouse.shape.trees."""

import itertools
import random
import unittest

from joinhouse.base.questions import Question
from joinhouse.errors import InvalidOperation, InvalidQuestion
from joinhouse.shape.trees import cutting, is_cutting, is_join_tree, join_tree, tree_of
from tests.brute import asking, clause_sets, crown_of, is_connected, ring_of, shape, some_question, some_shape
from tests.samples import PATH, RING, SIXTY, SIXTY_ONE, TWICE, VALUES, RefusingCase

STAR = shape("ab", "ac", "ad", "e")


def trees_by_links(question):
    """All join trees, by a search through all tuples of links."""
    every = list(itertools.combinations(range(len(question)), 2))
    sets = clause_sets(question)
    found = []
    for links in itertools.combinations(every, len(question) - 1):
        if is_connected(range(len(question)), links) and all(
                is_connected([at for at, some in enumerate(sets) if column in some], links)
                for column in question.columns):
            found.append(links)
    return found


def is_cutting_by_words(question, pairs):
    """Point 9.2, word by word."""
    left = set(range(len(question)))
    sets = clause_sets(question)
    for one, other in pairs:
        if one == other or one not in left or other not in left:
            return False
        others = set().union(*[sets[at] for at in left - {one}])
        if not sets[one] & others <= sets[other]:
            return False
        left.remove(one)
    return len(left) == 1


class TreesTest(RefusingCase):

    def check(self, question):
        right = trees_by_links(question)
        tree = join_tree(question)
        pairs = cutting(question)
        self.assertEqual((tree is None, pairs is None), (not right, not right))
        if right:
            self.assertIn(tree, right)
            self.assertTrue(is_cutting_by_words(question, pairs))
            self.assertIs(is_cutting(question, pairs), True)
            self.assertIs(is_join_tree(question, tree), True)
            self.assertIn(tree_of(pairs), right)
        every = list(itertools.combinations(range(len(question)), 2))
        for links in itertools.combinations(every, len(question) - 1):
            self.assertIs(is_join_tree(question, links), links in right)
        return bool(right)

    def test_by_chance(self):
        chance = random.Random(1)
        seen = [0, 0]
        for at in range(800):
            question = some_shape(chance, most=4) if at % 2 else some_question(chance, letters="abcd", most=4)
            seen[self.check(question)] += 1
        self.assertGreater(min(seen), 20)

    def test_five_clauses(self):
        chance = random.Random(2)
        for _ in range(25):
            self.check(some_shape(chance, letters="abcdef", many=5))

    def test_without_common_columns(self):
        loose = shape("a", "b", "c")
        self.check(loose)
        for links in (((0, 1), (0, 2)), ((0, 1), (1, 2)), ((0, 2), (1, 2))):
            self.assertIs(is_join_tree(loose, links), True)
        for links in (((0, 1), (0, 2), (1, 2)), ((0, 1),), ((0, 1), (0, 1)), ()):
            self.assertIs(is_join_tree(loose, links), False)
        self.check(STAR)
        self.assertIs(is_join_tree(STAR, ((0, 1), (0, 2), (2, 3))), True)
        self.assertIs(is_join_tree(STAR, ((0, 1), (0, 3), (2, 3))), False)

    def test_no_trees(self):
        for question in (RING, *[ring_of("abcdefgh"[:many]) for many in range(4, 9)],
                         *[crown_of("abcdefgh"[:many]) for many in range(3, 9)]):
            self.assertIsNone(join_tree(question))
            self.assertIsNone(cutting(question))

    def test_a_part_of_a_tree_has_none(self):
        whole = asking("r a b", "s b c", "t a c", "u a b c")
        self.assertEqual(join_tree(whole), ((0, 3), (1, 3), (2, 3)))
        self.assertIsNone(join_tree(whole.without_clause(("u", ("a", "b", "c")))))

    def test_one_clause(self):
        alone = asking("r a b")
        self.assertEqual((join_tree(alone), cutting(alone)), ((), ()))
        for value in ((), *VALUES):
            self.assertIs(is_join_tree(alone, value), value == ())
            self.assertIs(is_cutting(alone, value), value == ())

    def test_eight_clauses(self):
        path = shape("ab", "bc", "cd", "de", "ef", "fg", "gh", "h")
        self.assertEqual(join_tree(path), tuple((at, at + 1) for at in range(7)))
        self.assertIs(is_cutting(path, tuple((at, at - 1) for at in range(7, 0, -1))), True)
        chance = random.Random(3)
        found = 0
        for _ in range(200):
            question = some_shape(chance, letters="abcdefgh", many=8)
            tree = join_tree(question)
            if tree is not None:
                found += 1
                self.assertTrue(is_connected(range(8), tree))
                for column in question.columns:
                    self.assertTrue(is_connected(question.having(column), tree))
        self.assertGreater(found, 10)

    def test_no_join_trees(self):
        path = shape("ab", "bc", "cd", "d")
        self.assertIs(is_join_tree(path, ((0, 1), (1, 2), (2, 3))), True)
        for value in (
            ((0, 1), (1, 2)), ((0, 1), (1, 2), (2, 3), (2, 3)), ((0, 1), (0, 1), (2, 3)), ((1, 2), (0, 1), (2, 3)),
            ((0, 1), (2, 1), (2, 3)), ((1, 0), (1, 2), (2, 3)), ((False, 1), (1, 2), (2, 3)),
            ((0, True), (1, 2), (2, 3)), ((0, 1), (True, 2), (2, 3)), ((0, 1), (1, 2), (2, 4)),
            ((-1, 1), (1, 2), (2, 3)), ((0, 1), (1, 1), (2, 3)), [(0, 1), (1, 2), (2, 3)], ([0, 1], (1, 2), (2, 3)),
            ((0, 1), (1, 2), (2, 3, 3)), ((0, 1), (1, 2), (2, SIXTY_ONE)), ((0, 1), (1, 2), (2,)), ((0, 1), (1, 2), 2),
            ((0, 1), (1, 2), (2, None)), ((0, 1), (1, 2), (2, [3])), ((0, 1), (1, 2), ("2", "3")), ((0, 1), (0, 2), (1, 2)),
            (0, 1, 2), ((0, 3), (1, 2), (2, 3)),
        ):
            self.assertIs(is_join_tree(path, value), False, value)
        for value in VALUES:
            self.assertIs(is_join_tree(path, value), False)
            self.assertIs(is_join_tree(RING, value), False)


class CuttingsTest(RefusingCase):

    def test_in_every_order(self):
        chance = random.Random(4)
        seen = [0, 0]
        for question in [PATH, TWICE, RING, STAR, shape("a", "b", "c"), *[
                some_shape(chance, letters="abcd", many=3) for _ in range(15)]]:
            many = len(question)
            trees = trees_by_links(question)
            every = list(itertools.product(range(many), repeat=2))
            for pairs in itertools.product(every, repeat=many - 1):
                right = is_cutting_by_words(question, pairs)
                self.assertIs(is_cutting(question, pairs), right)
                if right:
                    self.assertIn(tree_of(pairs), trees)
                seen[right] += 1
        self.assertGreater(min(seen), 100)

    def test_no_cuttings(self):
        path = shape("ab", "bc", "c")
        self.assertIs(is_cutting(path, ((0, 1), (1, 2))), True)
        self.assertIs(is_cutting(path, ((0, 1), (2, 1))), True)
        for value in (
            ((0, 1),), ((0, 1), (1, 2), (2, 1)), ((0, 1), (0, 1)), ((0, 1), (1, 0)), ((0, 2), (1, 2)), ((1, 0), (0, 2)),
            ((False, 1), (1, 2)), ((0, True), (1, 2)), [(0, 1), (1, 2)], ([0, 1], (1, 2)), ((0, 1), (1, 2, 2)),
            ((0, 1), (1, 3)), ((0, 1), (-1, 2)), ((0, 1), (1, None)), ((0, 1), 1), ((0, 1), (1, [2])), ((0, 0), (1, 2)),
        ):
            self.assertIs(is_cutting(path, value), False, value)
        for value in VALUES:
            self.assertIs(is_cutting(path, value), False)

    def test_trees_of_pairs(self):
        for pairs, links in (
            ((), ()), (((1, 0), (2, 0)), ((0, 1), (0, 2))), (((0, 1), (1, 0), (0, 1)), ((0, 1),)),
            (((7, 3), (SIXTY, 0), (3, 2)), ((0, SIXTY), (2, 3), (3, 7))), (((9, 4), (1, 2), (2, 1)), ((1, 2), (4, 9))),
        ):
            self.assertEqual(tree_of(pairs), links)

    def test_trees_of_no_pairs(self):
        for value in (*VALUES, ((0, 0),), ((1, 0), (2, 2)), ((True, 0),), ((1, False),), ((1, -1),), ((1, SIXTY_ONE),),
                      [(1, 0)], ([1, 0],), ((1, 0, 2),), ((1,),), (1, 0), ((1, "0"),), ((1, None),), ((1, [0]),)):
            if value != ():
                self.refused(InvalidOperation, tree_of, value)


class RefusedCallsTest(RefusingCase):

    def test_questions(self):
        for value in VALUES:
            if not isinstance(value, Question):
                for function in (join_tree, cutting):
                    self.refused(InvalidQuestion, function, value)
                for function in (is_join_tree, is_cutting):
                    self.refused(InvalidQuestion, function, value, ())
                    self.refused(InvalidQuestion, function, value, value)


if __name__ == "__main__":
    unittest.main()
