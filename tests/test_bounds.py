"""Points 0.18, 11.3 and the functions of joinhouse.size.bounds on coverings and fillings."""

import itertools
import math
import random
import unittest
from fractions import Fraction

from joinhouse.base.questions import Question
from joinhouse.errors import InvalidKeys, InvalidOperation, InvalidQuestion, InvalidSizes, InvalidWeights
from joinhouse.size.bounds import (
    greatest_filling,
    is_covering,
    is_filling,
    is_greatest_filling,
    is_least_covering,
    least_covering,
    price_of,
    size_bound,
    worth_of,
)
from tests.brute import asking, crown_of, ring_of, shape, some_shape
from tests.samples import PATH, RING, SIXTY, SIXTY_ONE, TWICE, VALUES, RefusingCase
from tests.test_sizes import reached_by_search, some_keys

ONE = {"r": (1, 1), "s": (1, 1), "t": (1, 1)}
TWO = {"r": (1, 1), "s": (1, 1)}
HALVES = (("r", (1, 2)), ("s", (1, 2)), ("t", (1, 2)))
COLUMNS = (("a", (1, 2)), ("b", (1, 2)), ("c", (1, 2)))
FOUR = (size_bound, least_covering, greatest_filling)


def ones(question, size=(1, 1)):
    return {table: size for table in question.tables}


def some_sizes(chance, question, most=18):
    found = {}
    for table in question.tables:
        half = Fraction(chance.randint(0, most), 2)
        found[table] = (half.numerator, half.denominator)
    return found


def is_weights(value, names):
    """Whether weights have the right form, as point 11.3 tells it."""
    return (value.__class__ is tuple and list(value) == sorted(value) and len({name for name, _ in value}) == len(value)
            and all(name in names and p >= 1 and q >= 1 and math.gcd(p, q) == 1 for name, (p, q) in value))


def covers(question, keys, value):
    reached = reached_by_search(question, keys)
    return is_weights(value, question.tables) and all(
        sum(Fraction(*weight) for table, weight in value if column in reached[table]) >= 1 for column in question.asked)


def fills(question, sizes, keys, value):
    reached = reached_by_search(question, keys)
    return is_weights(value, question.asked) and all(
        sum(Fraction(*weight) for column, weight in value if column in reached[table]) <= Fraction(*sizes[table])
        for table in reached)


def price(sizes, weights):
    return sum((Fraction(*weight) * Fraction(*sizes[table]) for table, weight in weights), Fraction(0))


def worth(weights):
    return sum((Fraction(*weight) for _, weight in weights), Fraction(0))


def pair(number):
    return number.numerator, number.denominator


def denominator(weights):
    return math.lcm(*[weight[1] for _, weight in weights], 1)


class BoundsTest(RefusingCase):

    def check(self, question, sizes, keys):
        """Checks all results; equal price and worth show that both are best."""
        covering = least_covering(question, sizes, keys)
        filling = greatest_filling(question, sizes, keys)
        bound = size_bound(question, sizes, keys)
        self.assertTrue(covers(question, keys, covering))
        self.assertTrue(fills(question, sizes, keys, filling))
        self.assertEqual((pair(price(sizes, covering)), pair(worth(filling))), (bound, bound))
        self.assertTrue(all(0 < Fraction(*weight) <= 1 for _, weight in covering))
        self.assertLessEqual(denominator(covering), 56)
        self.assertLessEqual(math.lcm(denominator(filling), *[size[1] for size in sizes.values()]), 112)
        self.assertIs(is_covering(question, keys, covering), True)
        self.assertIs(is_least_covering(question, sizes, keys, covering), True)
        self.assertIs(is_filling(question, sizes, keys, filling), True)
        self.assertIs(is_greatest_filling(question, sizes, keys, filling), True)
        self.assertEqual(price_of(question, sizes, covering), bound)
        self.assertEqual(worth_of(filling), bound)
        return Fraction(*bound)

    def test_by_chance(self):
        chance = random.Random(1)
        less = 0
        for _ in range(400):
            question = some_shape(chance, letters="abcdef", most=6)
            sizes = some_sizes(chance, question, most=chance.choice((2, 6, 18)))
            keys = some_keys(chance, question)
            less += self.check(question, sizes, keys) < self.check(question, sizes, ())
        self.assertGreater(less, 40)

    def test_eight_clauses_with_eight_columns(self):
        chance = random.Random(2)
        seen = set()
        for _ in range(150):
            texts = ["".join(chance.sample("abcdefgh", chance.randint(3, 5))) for _ in range(8)]
            question = shape(*texts, asked=sorted(set("".join(texts))))
            self.check(question, some_sizes(chance, question), ())
            self.check(question, ones(question), ())
            seen.add(denominator(least_covering(question, ones(question), ())))
        self.assertGreater(max(seen), 6)

    def test_known_bounds(self):
        for many in range(3, 9):
            columns = "abcdefgh"[:many]
            ring, crown = ring_of(columns).full, crown_of(columns).full
            self.assertEqual(self.check(ring, ones(ring), ()), Fraction(many, 2))
            self.assertEqual(self.check(crown, ones(crown), ()), Fraction(many, many - 1))
        loose = shape(*"abcdefgh", asked="abcdefgh")
        self.assertEqual(self.check(loose, ones(loose, (9, 1)), ()), 72)
        self.assertEqual(self.check(loose, ones(loose, (17, 2)), ()), 68)
        self.assertEqual(self.check(loose, ones(loose, (0, 1)), ()), 0)
        # The lines of the plane of seven points: each weight is a third.
        plane = shape("abc", "ade", "afg", "bdf", "beg", "cdg", "cef", asked="abcdefg")
        self.assertEqual(self.check(plane, ones(plane), ()), Fraction(7, 3))

    def test_no_asked_columns(self):
        self.assertEqual((size_bound(RING, ONE, ()), least_covering(RING, ONE, ()), greatest_filling(RING, ONE, ())),
                         ((0, 1), (), ()))
        self.assertIs(is_covering(RING, (), ()), True)
        self.assertIs(is_least_covering(RING, ONE, (), ()), True)
        self.assertIs(is_greatest_filling(RING, ONE, (), ()), True)
        self.assertIs(is_covering(RING, (), HALVES), True)
        self.assertIs(is_least_covering(RING, ONE, (), HALVES), False)
        self.assertIs(is_filling(RING, ONE, (), COLUMNS), False)
        self.assertIs(is_least_covering(RING, {**ONE, "r": (0, 1)}, (), (("r", (5, 1)),)), True)

    def test_some_asked_columns(self):
        self.assertEqual(size_bound(PATH.asking("b"), TWO, ()), (1, 1))
        self.assertEqual(size_bound(PATH.asking("b"), {"r": (3, 1), "s": (1, 2)}, ()), (1, 2))
        self.assertEqual(size_bound(PATH.asking("c", "a"), {"r": (3, 1), "s": (1, 2)}, ()), (7, 2))
        self.assertEqual(size_bound(RING.asking("c", "b", "a"), ONE, ()), (3, 2))

    def test_keys_that_make_it_less(self):
        self.assertEqual(size_bound(PATH, TWO, (("s", 0, 1),)), (1, 1))
        self.assertEqual(size_bound(PATH, TWO, (("s", 1, 0),)), (2, 1))
        self.assertEqual(size_bound(RING.full, ONE, (("r", 0, 1),)), (1, 1))
        line = shape("ab", "bc", "cd", asked="abcd")
        self.assertEqual(size_bound(line, ones(line), ()), (2, 1))
        self.assertEqual(size_bound(line, ones(line), (("tb", 0, 1), ("tc", 0, 1))), (1, 1))

    def test_against_small_denominators(self):
        chance = random.Random(3)
        for _ in range(25):
            question = some_shape(chance, letters="abc", most=3)
            sizes = some_sizes(chance, question, most=4)
            keys = some_keys(chance, question, most=2)
            halves = [Fraction(number, 2) for number in range(3)]
            prices = []
            for numbers in itertools.product(halves, repeat=len(question)):
                weights = tuple((table, pair(number)) for table, number in zip(question.tables, numbers) if number)
                right = covers(question, keys, weights)
                self.assertIs(is_covering(question, keys, weights), right)
                if right:
                    prices.append(price(sizes, weights))
                    self.assertEqual(price_of(question, sizes, weights), pair(prices[-1]))
            bound = Fraction(*size_bound(question, sizes, keys))
            self.assertEqual(min(prices), bound)
            asked = sorted(question.asked)
            worths = []
            for numbers in itertools.product([Fraction(number, 4) for number in range(9)], repeat=len(asked)):
                weights = tuple((column, pair(number)) for column, number in zip(asked, numbers) if number)
                right = fills(question, sizes, keys, weights)
                self.assertIs(is_filling(question, sizes, keys, weights), right)
                if right:
                    worths.append(worth(weights))
                    self.assertIs(is_greatest_filling(question, sizes, keys, weights), worths[-1] == bound)
            self.assertEqual(max(worths), bound)


class JudgesTest(RefusingCase):

    def test_coverings(self):
        ring = RING.full
        self.assertIs(is_covering(ring, (), HALVES), True)
        self.assertIs(is_least_covering(ring, ONE, (), HALVES), True)
        for value in ((("r", (1, 1)), ("s", (1, 1))), (("r", (2, 3)), ("s", (1, 2)), ("t", (1, 2))),
                      (("r", (7, 1)), ("t", (SIXTY, 1)))):
            self.assertIs(is_covering(ring, (), value), True)
            self.assertIs(is_least_covering(ring, ONE, (), value), False)
        for value in (
            *VALUES, HALVES[:2], (("r", (1, 3)), *HALVES[1:]), (("r", (0, 1)), *HALVES[1:]), (("r", (-1, 2)), *HALVES[1:]),
            (("r", (2, 4)), *HALVES[1:]), HALVES[::-1], (HALVES[0], *HALVES), (*HALVES, ("u", (1, 2))), list(HALVES),
            (["r", (1, 2)], *HALVES[1:]), (("r", [1, 2]), *HALVES[1:]), (("r", (True, 1)), *HALVES[1:]),
            (("r", (1, True)), *HALVES[1:]), (("r", (1, 0)), *HALVES[1:]), (("r", (-1, -2)), *HALVES[1:]),
            (("r", (1, 2), 1), *HALVES[1:]), (("r", 1), *HALVES[1:]), (("r", (SIXTY_ONE, 1)), *HALVES[1:]),
            (("r", (1, 2)), ("r", (1, 1)), *HALVES[1:]), COLUMNS, dict(HALVES), (None, *HALVES[1:]),
            ((1, (1, 2)), *HALVES[1:]),
        ):
            self.assertIs(is_covering(ring, (), value), False, value)
            self.assertIs(is_least_covering(ring, ONE, (), value), False, value)

    def test_fillings(self):
        ring = RING.full
        self.assertIs(is_filling(ring, ONE, (), COLUMNS), True)
        self.assertIs(is_greatest_filling(ring, ONE, (), COLUMNS), True)
        for value in ((), COLUMNS[:2], (("a", (1, 1)),), (("a", (1, 3)), *COLUMNS[1:]), (("a", (1, SIXTY)),)):
            self.assertIs(is_filling(ring, ONE, (), value), True)
            self.assertIs(is_greatest_filling(ring, ONE, (), value), False)
        for value in (
            *VALUES, (("a", (2, 3)), *COLUMNS[1:]), (("a", (0, 1)), *COLUMNS[1:]), (("a", (-1, 2)), *COLUMNS[1:]),
            (("a", (2, 4)), *COLUMNS[1:]), COLUMNS[::-1], (COLUMNS[0], *COLUMNS), (*COLUMNS, ("d", (1, 9))), list(COLUMNS),
            HALVES, (("a", (True, 2)), *COLUMNS[1:]), (("a", (1, 2), 2), *COLUMNS[1:]), (("a", (1, 0)),), dict(COLUMNS),
            (("a", (1, 4)), ("a", (1, 4)), *COLUMNS[1:]), (("a", (1, 4)), ("a", (1, 3)), *COLUMNS[1:]),
        ):
            if value != ():
                self.assertIs(is_filling(ring, ONE, (), value), False, value)
                self.assertIs(is_greatest_filling(ring, ONE, (), value), False, value)
        self.assertIs(is_filling(PATH, TWO, (), (("b", (1, 2)),)), False)
        self.assertIs(is_filling(PATH, TWO, (("s", 0, 1),), (("a", (1, 1)), ("c", (1, 1)))), False)
        self.assertIs(is_filling(PATH, TWO, (), (("a", (1, 1)), ("c", (1, 1)))), True)

    def test_keys_help_to_cover(self):
        alone = (("r", (1, 1)),)
        self.assertIs(is_covering(PATH, (), alone), False)
        self.assertIs(is_covering(PATH, (("s", 0, 1),), alone), True)
        self.assertIs(is_least_covering(PATH, TWO, (("s", 0, 1),), alone), True)

    def test_prices_and_worths(self):
        sizes = {"r": (3, 2), "s": (0, 1), "t": (9, 1)}
        self.assertEqual(price_of(RING, sizes, HALVES), (21, 4))
        self.assertEqual(price_of(RING, sizes, (("s", (5, 7)),)), (0, 1))
        self.assertEqual(price_of(RING, sizes, ()), (0, 1))
        self.assertEqual(price_of(RING, sizes, (("t", (SIXTY, 1)),)), (9 * SIXTY, 1))
        self.assertEqual((worth_of(()), worth_of(COLUMNS), worth_of((("a", (1, 3)), ("z", (1, 6))))), ((0, 1), (3, 2), (1, 2)))
        self.assertEqual(worth_of((("a", (1, SIXTY)), ("b", (1, SIXTY - 2)))), pair(Fraction(1, SIXTY) + Fraction(1, SIXTY - 2)))
        for value in (*VALUES, COLUMNS[::-1], (("a", (0, 1)),), (("a", (2, 4)),), (("a", (-1, 2)),), (("A", (1, 2)),),
                      (("a", (1, 2)), ("a", (2, 3))), list(COLUMNS), (("a", (True, 1)),)):
            if value != ():
                self.refused(InvalidWeights, worth_of, value)
                self.refused(InvalidWeights, price_of, RING, sizes, value)
        self.refused(InvalidWeights, price_of, RING, sizes, COLUMNS)
        self.refused(InvalidWeights, price_of, PATH, TWO, HALVES)


class RefusedCallsTest(RefusingCase):

    def test_the_first_one_decides(self):
        for value in VALUES:
            if not isinstance(value, Question):
                for function in FOUR:
                    self.refused(InvalidQuestion, function, value, None, None)
                    self.refused(InvalidQuestion, function, value, value, value)
                self.refused(InvalidQuestion, is_covering, value, None, None)
                self.refused(InvalidQuestion, price_of, value, None, None)
                for function in (is_filling, is_least_covering, is_greatest_filling):
                    self.refused(InvalidQuestion, function, value, None, None, None)
            for function in FOUR:
                self.refused(InvalidOperation, function, TWICE, value, value)
                if value != {}:
                    self.refused(InvalidSizes, function, PATH, value, value)
                if value != ():
                    self.refused(InvalidKeys, function, PATH, TWO, value)
            for function in (is_filling, is_least_covering, is_greatest_filling):
                self.refused(InvalidOperation, function, TWICE, value, value, value)
                self.refused(InvalidSizes, function, PATH, value, value, value)
                if value != ():
                    self.refused(InvalidKeys, function, PATH, TWO, value, value)
            self.refused(InvalidOperation, is_covering, TWICE, value, value)
            self.refused(InvalidOperation, price_of, TWICE, value, value)
            self.refused(InvalidSizes, price_of, PATH, value, value)
            if value != ():
                self.refused(InvalidKeys, is_covering, PATH, value, value)
        self.refused(InvalidSizes, size_bound, PATH, ONE, ())
        self.refused(InvalidSizes, size_bound, RING, TWO, None)
        self.refused(InvalidKeys, size_bound, PATH, TWO, (("t", 0, 1),))
        self.assertEqual(asking("r a b", "asked a").asked, ("a",))


if __name__ == "__main__":
    unittest.main()
