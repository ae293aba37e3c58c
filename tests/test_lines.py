"""Point 14.1: lines of clauses, and trios."""

import itertools
import random
import unittest

from joinhouse.base.questions import Question
from joinhouse.errors import InvalidQuestion
from joinhouse.shape.trees import join_tree
from joinhouse.strike import lines
from joinhouse.strike.lines import is_line, is_trio, line_of, trio_of
from tests.brute import asking, clause_sets, crown_of, ring_of, shape, some_question, some_shape
from tests.samples import LOOP, PATH, RING, TWICE, VALUES, RefusingCase

SINGLE = asking("r a b")
STAR = shape("ab", "ac", "ad")
CLAW = shape("abc", "a", "b", "c")
LONG = shape("ab", "bc", "cd", "de", "ef", "fg", "gh", "h")


def is_line_by_words(question, order):
    """Whether for each column the clauses with it stand side by side."""
    sets = clause_sets(question)
    for column in question.columns:
        places = [place for place, at in enumerate(order) if column in sets[at]]
        if places != list(range(places[0], places[-1] + 1)):
            return False
    return True


def is_chain_by_words(question, first, last, third, chain):
    sets = clause_sets(question)
    if len(chain) < 2 or len(set(chain)) != len(chain) or (chain[0], chain[-1]) != (first, last):
        return False
    return all(sets[one] & sets[other] - sets[third] for one, other in zip(chain, chain[1:]))


def is_trio_by_words(question, trio):
    i, j, k, first, second, third = trio
    return i < j < k and is_chain_by_words(question, i, j, k, first) and is_chain_by_words(
        question, i, k, j, second) and is_chain_by_words(question, j, k, i, third)


def all_chains(many):
    """All tuples of different indices."""
    return [chain for length in range(many + 1) for chain in itertools.permutations(range(many), length)]


def all_trios(question):
    """All trios, by a search through all chains."""
    many = len(question)
    found = []
    for i, j, k in itertools.combinations(range(many), 3):
        some = [[chain for chain in all_chains(many) if is_chain_by_words(question, *ends, chain)]
                for ends in ((i, j, k), (i, k, j), (j, k, i))]
        found += [(i, j, k, *chains) for chains in itertools.product(*some)]
    return found


class LinesTest(RefusingCase):

    def check(self, question):
        """Checks that there is either a line or a trio, and that both are judged."""
        line, trio = line_of(question), trio_of(question)
        self.assertEqual(line is None, trio is not None)
        if line is not None:
            self.assertEqual(sorted(line), list(range(len(question))))
            self.assertTrue(is_line_by_words(question, line))
            self.assertIs(is_line(question, line), True)
            self.assertIs(is_line(question, line[::-1]), True)
            # A question with a line has a join tree: each clause is linked with the next one.
            self.assertIsNotNone(join_tree(question))
        else:
            self.assertTrue(is_trio_by_words(question, trio))
            self.assertIs(is_trio(question, trio), True)
        return line is not None

    def test_by_chance(self):
        chance = random.Random(1)
        seen = [0, 0]
        for at in range(600):
            if at % 3 == 0:
                question = some_question(chance, letters="abcd")
            else:
                question = some_shape(chance, letters="abcdefgh"[:chance.randint(3, 8)], most=8)
            seen[self.check(question)] += 1
        self.assertGreater(min(seen), 50)

    def test_shapes(self):
        for question in (PATH, TWICE, SINGLE, STAR, LONG, shape("ab", "cd", "ef"), shape("abcdefgh", "a", "h"),
                         shape("abc", "bcd", "cde", "def"), shape("ab", "ab", "ab"), shape("a", "ab", "b")):
            self.assertTrue(self.check(question), str(question))
        for question in (RING, LOOP, CLAW, ring_of("abcde"), ring_of("abcdefgh"), crown_of("abcd"),
                         shape("ab", "cd", "ef", "abcdef"[::2])):
            self.assertFalse(self.check(question), str(question))
        self.assertEqual(line_of(SINGLE), (0,))
        self.assertIn(line_of(LONG), (tuple(range(8)), tuple(range(7, -1, -1))))

    def test_all_orders(self):
        chance = random.Random(2)
        seen = 0
        for at in range(60):
            question = some_shape(chance, letters="abcde"[:chance.randint(2, 5)], many=chance.randint(1, 5))
            right = [order for order in itertools.permutations(range(len(question)))
                     if is_line_by_words(question, order)]
            for order in itertools.product(range(-1, len(question) + 1), repeat=len(question)):
                self.assertIs(is_line(question, order), order in right)
            self.assertTrue(line_of(question) in right if right else line_of(question) is None)
            seen += 0 < len(right) < 24
        self.assertGreater(seen, 20)

    def test_no_lines(self):
        for value in (*VALUES, (0,), (0, 0), (0, 1, 1), (True, 0), (0, True), (False, 1), [0, 1], "01", (0, None), (0, [1]),
                      {0: 1, 1: 0}, (1, -2), (0, 1.0), ((0, 1),)):
            self.assertIs(is_line(PATH, value), False, value)
        for value in ((0, 1), (1, 0)):
            self.assertIs(is_line(PATH, value), True)
        self.assertIs(is_line(SINGLE, (0,)), True)
        for value in (*VALUES, (False,), [0], 0, (1,), ()):
            self.assertIs(is_line(SINGLE, value), False, value)

    def test_wrong_questions(self):
        for value in VALUES:
            if not isinstance(value, Question):
                self.refused(InvalidQuestion, line_of, value)
                self.refused(InvalidQuestion, trio_of, value)
                self.refused(InvalidQuestion, is_line, value, (0, 1))
                self.refused(InvalidQuestion, is_trio, value, value)
        self.assertEqual(lines.MAX_FORCE, 16)


class TriosTest(RefusingCase):

    def test_all_trios(self):
        chance = random.Random(3)
        seen = 0
        questions = [some_shape(chance, letters="abcd", many=chance.randint(3, 4), wide=3) for _ in range(60)]
        for question in (RING, LOOP, CLAW, shape("ab", "bc", "ac", "ab"), shape("abc", "ad", "bd", "cd"), *questions):
            right = set(all_trios(question))
            seen += bool(right)
            chains = all_chains(len(question))
            for i, j, k in itertools.product(range(len(question)), repeat=3):
                for _ in range(60):
                    trio = (i, j, k, *chance.choices(chains, k=3))
                    self.assertIs(is_trio(question, trio), trio in right)
            for trio in sorted(right):
                self.assertIs(is_trio(question, trio), True)
            # Each chain of some of them exchanged for each other one.
            for trio in sorted(right)[:3]:
                for at in (3, 4, 5):
                    for chain in chains:
                        other = (*trio[:at], chain, *trio[at + 1:])
                        self.assertIs(is_trio(question, other), other in right)
            self.assertTrue(trio_of(question) in right if right else trio_of(question) is None)
        self.assertGreater(seen, 5)

    def test_chains(self):
        ring = ring_of("abcde")
        trio = trio_of(ring)
        i, j, k, first, second, third = trio
        for value in (
            (i, j, k, first, third, second), (i, j, k, second, first, third), (i, j, k, first[::-1], second, third),
            (j, i, k, first[::-1], third, second), (i, k, j, second, first, third[::-1]), (i, j, k, first[:-1], second, third),
            (i, j, k, first, second, third[1:]), (i, j, k, (*first, i), second, third), (i, j, k, (i, *first), second, third),
            (i, j, k, first, second), (i, j, k, first, second, third, third), [i, j, k, first, second, third],
            (i, j, k, list(first), second, third), (i, j, k, first, second, None), (i, j, None, first, second, third),
            (i, j, k, (), second, third), (i, j, k, (i,), second, third), (i, j, k, first, second, (j, True)),
        ):
            self.assertIs(is_trio(ring, value), False, value)
        self.assertIs(is_trio(ring, trio), True)

    def test_longer_chains(self):
        twice = shape("ab", "bc", "ac", "ab")
        right = all_trios(twice)
        self.assertTrue(any(len(chain) == 3 for trio in right for chain in trio[3:]))
        for trio in right:
            self.assertIs(is_trio(twice, trio), True)
        # One clause apart from the others is reached by chains of all lengths.
        ring = ring_of("abcdef")
        self.assertIs(is_trio(ring, (0, 2, 4, (0, 1, 2), (0, 5, 4), (2, 3, 4))), True)
        self.assertIs(is_trio(ring, (0, 2, 4, (0, 5, 4, 3, 2), (0, 5, 4), (2, 3, 4))), False)
        self.assertIs(is_trio(ring, (0, 2, 5, (0, 1, 2), (0, 5), (2, 3, 4, 5))), True)
        self.assertIs(is_trio(ring, (0, 1, 2, (0, 1), (0, 5, 4, 3, 2), (1, 2))), True)

    def test_neighbours_that_share_only_columns_of_the_third_clause(self):
        # In the ring the clauses 0 and 1 share b only, which the third one has here.
        bent = shape("ab", "bc", "abc")
        self.assertIs(is_trio(RING, (0, 1, 2, (0, 1), (0, 2), (1, 2))), True)
        self.assertIs(is_trio(bent, (0, 1, 2, (0, 1), (0, 2), (1, 2))), False)
        self.assertEqual(all_trios(bent), [])
        self.assertIsNone(trio_of(bent))

    def test_a_clause_twice(self):
        question = ring_of("abcd")
        for trio in all_trios(question):
            for at in (3, 4, 5):
                chain = trio[at]
                longer = (*chain[:1], *chain[:1], *chain[1:])
                self.assertIs(is_trio(question, (*trio[:at], longer, *trio[at + 1:])), False)
                around = (chain[0], chain[1], chain[0], *chain[1:])
                self.assertIs(is_trio(question, (*trio[:at], around, *trio[at + 1:])), False)

    def test_true_is_not_one(self):
        self.assertIs(is_trio(RING, (0, 1, 2, (0, 1), (0, 2), (1, 2))), True)
        for value in ((False, 1, 2, (0, 1), (0, 2), (1, 2)), (0, True, 2, (0, 1), (0, 2), (1, 2)),
                      (0, 1, 2, (0, True), (0, 2), (1, 2)), (0, 1, 2, (0, 1), (False, 2), (1, 2)),
                      (0, 1, 2, (0, 1), (0, 2), (True, 2))):
            self.assertIs(is_trio(RING, value), False)

    def test_no_trios(self):
        for value in VALUES:
            for question in (PATH, RING, SINGLE):
                self.assertIs(is_trio(question, value), False, value)
            for at in range(6):
                trio = [0, 1, 2, (0, 1), (0, 2), (1, 2)]
                if value != trio[at] or isinstance(value, bool):
                    trio[at] = value
                    self.assertIs(is_trio(RING, tuple(trio)), False, value)
        self.assertIs(is_trio(PATH, (0, 1, 1, (0, 1), (0, 1), (1, 1))), False)
        self.assertIs(is_trio(SINGLE, (0, 0, 0, (0, 0), (0, 0), (0, 0))), False)


if __name__ == "__main__":
    unittest.main()
