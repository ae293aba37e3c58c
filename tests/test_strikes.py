"""Points 0.21, 14.2, 14.3 and the other functions of joinhouse.strike.lines."""

import itertools
import random
import unittest

from joinhouse.base.questions import Question
from joinhouse.base.readings import count_readings
from joinhouse.base.stores import Store
from joinhouse.count.whence import whence_of
from joinhouse.errors import InvalidOperation, InvalidQuestion, InvalidStore, TooMany
from joinhouse.strike.flows import flow_paths, greatest_flow
from joinhouse.strike.lines import (
    cheapest_strike,
    forced_numbers,
    greatest_load,
    is_load,
    is_strike,
    is_strike_paper,
    line_of,
    strike_paper,
)
from tests.brute import all_readings, asking, shape, some_shape, store_for, table
from tests.samples import PATH, RING, SIXTY, SIXTY_ONE, STORE, TWICE, VALUES, RefusingCase

LINES = (PATH, asking("r a b"), shape("ab", "bc", "cd"), shape("abc", "bc", "cd"), shape("aab", "bc"), shape("a", "b"),
         shape("ab", "ab", "b"), shape("ab", "cd"), shape("abc", "bcd", "d"))
WALLS = (RING, shape("ab", "bc", "ac"), shape("abc", "a", "b", "c"), shape("ab", "bc", "cd", "ad"))


def rows_of(question, reading):
    """The pairs of a table and a row that a reading reads."""
    values = dict(zip(question.columns, reading))
    return [(name, tuple(values[column] for column in columns)) for name, columns in question.clauses]


def is_strike_by_words(question, store, strike, kept=()):
    if list(strike) != sorted(set(strike)):
        return False
    if not all(pair in store and pair[0] in question.tables and pair[0] not in kept for pair in strike):
        return False
    return all(set(rows_of(question, reading)) & set(strike) for reading in all_readings(question, store))


def is_load_by_words(question, store, load, prices=None, kept=()):
    readings = [reading for reading, _ in load]
    if list(load) != sorted(load) or len(set(readings)) != len(readings) or any(times < 1 for _, times in load):
        return False
    if not set(readings) <= set(all_readings(question, store)):
        return False
    used = {}
    for reading, times in load:
        for pair in rows_of(question, reading):
            used[pair] = used.get(pair, 0) + times
    return all(pair[0] in kept or used[pair] <= (prices or {}).get(pair, 1) for pair in used)


def price_of(strike, prices):
    return sum((prices or {}).get(pair, 1) for pair in strike)


def cheapest_by_search(question, store, prices=None, kept=()):
    """The least price of a strike, by a search through all sets of rows."""
    rows = [pair for pair in store if pair[0] in question.tables and pair[0] not in kept]
    readings = [set(rows_of(question, reading)) for reading in all_readings(question, store)]
    best = None
    for many in range(len(rows) + 1):
        for some in itertools.combinations(rows, many):
            if all(read & set(some) for read in readings):
                price = price_of(some, prices)
                best = price if best is None else min(best, price)
    return best


def greatest_by_search(question, store, prices=None, kept=()):
    """The greatest size of a load, by a search through all of them."""
    readings = [rows_of(question, reading) for reading in all_readings(question, store)]
    rows = [pair for pair in store if pair[0] not in kept]
    best = 0
    todo = [(0, 0, {pair: (prices or {}).get(pair, 1) for pair in rows})]
    seen = set()
    while todo:
        at, size, left = todo.pop()
        best = max(best, size)
        if at < len(readings):
            read = [pair for pair in readings[at] if pair in left]
            for times in range(min(left[pair] for pair in read) + 1):
                after = {pair: left[pair] - (times if pair in read else 0) for pair in left}
                key = (at + 1, size + times, tuple(sorted(after.items())))
                if key not in seen:
                    seen.add(key)
                    todo.append((at + 1, size + times, after))
    return best


def most_apart(question, store):
    """The most readings without a common row, by a search through all sets of them."""
    readings = [set(rows_of(question, reading)) for reading in all_readings(question, store)]
    for many in range(len(readings), 0, -1):
        for some in itertools.combinations(readings, many):
            if all(not one & other for one, other in itertools.combinations(some, 2)):
                return many
    return 0


def some_prices(chance, store, greatest=3):
    """Prices of some rows, as a dict, or None."""
    if chance.random() < 0.2:
        return None
    return {pair: chance.randint(0, greatest) for pair in store if chance.random() < 0.7}


def some_kept(chance, question):
    tables = sorted(question.tables)
    return tuple(sorted(chance.sample(tables, chance.randint(0, len(tables) - 1))))


class PapersTest(RefusingCase):

    def check(self, question, store, prices, kept):
        """Checks the paper of a question with a line by the words of the document, and the judges with it."""
        more = {"prices": prices, "kept": kept}
        strike, load = strike_paper(question, store, **more)
        self.assertTrue(is_strike_by_words(question, store, strike, kept), (str(question), store.lines, strike))
        self.assertTrue(is_load_by_words(question, store, load, prices, kept))
        size = sum(times for _, times in load)
        self.assertEqual(size, price_of(strike, prices))
        self.assertIs(is_strike(question, store, strike, **more), True)
        self.assertIs(is_load(question, store, load, **more), True)
        self.assertIs(is_strike_paper(question, store, (strike, load), **more), True)
        self.assertEqual(price_of(cheapest_strike(question, store, **more), prices), size)
        self.assertEqual(sum(times for _, times in greatest_load(question, store, **more)), size)
        return size

    def test_by_chance(self):
        chance = random.Random(1)
        sizes = []
        for at in range(250):
            question = chance.choice(LINES) if at % 2 else some_shape(chance, letters="abcdef", many=chance.randint(1, 5))
            if line_of(question) is not None:
                store = store_for(chance, question, most=5)
                sizes.append(self.check(question, store, some_prices(chance, store), some_kept(chance, question)))
        self.assertGreater(len(set(sizes)), 5)

    def test_against_searches(self):
        chance = random.Random(2)
        sizes = []
        for _ in range(60):
            question = chance.choice(LINES)
            store = store_for(chance, question, most=4, values=2 if len(question) > 2 else 3)
            prices, kept = some_prices(chance, store, 2), some_kept(chance, question)
            size = self.check(question, store, prices, kept)
            self.assertEqual(size, cheapest_by_search(question, store, prices, kept))
            self.assertEqual(size, greatest_by_search(question, store, prices, kept))
            sizes.append(size)
        self.assertGreater(len(set(sizes)), 3)

    def test_no_load_is_greater_than_a_strike_where_there_is_no_line(self):
        chance = random.Random(3)
        for _ in range(40):
            question = chance.choice(WALLS)
            store = store_for(chance, question, most=4, values=2)
            prices, kept = some_prices(chance, store, 2), some_kept(chance, question)
            cheapest = cheapest_by_search(question, store, prices, kept)
            greatest = greatest_by_search(question, store, prices, kept)
            self.assertLessEqual(greatest, cheapest)
            for function in (cheapest_strike, greatest_load, strike_paper):
                self.refused(InvalidOperation, function, question, store, prices=prices, kept=kept)

    def test_a_strike_takes_all_products_away(self):
        chance = random.Random(4)
        for _ in range(40):
            question = chance.choice(LINES)
            store = store_for(chance, question, most=5)
            whence = whence_of(question.asking(), store, ())
            self.assertEqual(len(whence.without(cheapest_strike(question, store))), 0)

    def test_great_prices(self):
        chance = random.Random(5)
        for _ in range(20):
            question = chance.choice(LINES)
            store = store_for(chance, question, most=6)
            prices = {pair: chance.choice((0, 1, SIXTY, SIXTY - 1, chance.randrange(SIXTY))) for pair in store}
            self.check(question, store, prices, some_kept(chance, question))
        # The sum of prices can have more than sixty digits.
        one = asking("r a")
        store = table("r", (1,), (2,), (3,))
        size = self.check(one, store, {pair: SIXTY for pair in store}, ())
        self.assertEqual(size, 3 * SIXTY)

    def test_price_nothing(self):
        prices = {pair: 0 for pair in STORE}
        self.assertEqual(self.check(PATH, STORE, prices, ()), 0)
        self.assertEqual(greatest_load(PATH, STORE, prices=prices), ())
        self.assertIs(is_strike(PATH, STORE, (), prices=prices), False)

    def test_prices_of_other_rows(self):
        prices = {("t", (4, 6)): 10 ** 50, ("r", (1, 2)): 1}
        self.assertEqual(self.check(PATH, STORE, prices, ()), 3)
        self.assertEqual(self.check(PATH, STORE, {("s", (2, 5)): 0, ("r", (4, 3)): 9}, ("s",)), 11)
        # Prices of rows that are kept do not matter.
        self.assertEqual(self.check(PATH, STORE, {("s", (2, 5)): 0, ("s", (3, 5)): 0, ("s", (3, 6)): 0}, ("s",)), 3)

    def test_no_reading(self):
        for store in (Store({"r": 2, "s": 2}, {}), Store({"r": 2, "s": 2}, {"r": ((1, 2),)}),
                      Store({"r": 2, "s": 2}, {"r": ((1, 2),), "s": ((3, 1),)})):
            self.assertEqual(strike_paper(PATH, store), ((), ()))
            self.assertIs(is_strike_paper(PATH, store, ((), ())), True)
            self.assertEqual(forced_numbers(PATH, store), (0, 0))

    def test_rows_that_do_not_agree_with_themselves(self):
        twice = asking("w x x y", "t y")
        store = Store({"w": 3, "t": 1}, {"w": ((1, 1, 2), (1, 2, 2), (3, 3, 2)), "t": ((2,),)})
        self.assertEqual(self.check(twice, store, None, ()), 1)
        self.assertEqual(self.check(twice, store, None, ("t",)), 2)
        self.assertIs(is_strike(twice, store, (("w", (1, 2, 2)), ("w", (3, 3, 2)))), False)

    def test_great_stores(self):
        chance = random.Random(6)
        long = shape("ab", "bc", "cd", "de", "ef", "fg", "gh", "h")
        for question, values in ((long, 40), (shape("abc", "bcd", "cde", "def"), 12), (PATH, 60), (shape("abcdefgh"), 9)):
            share = 3000 // len(question)
            store = Store(question.tables, {
                name: tuple({tuple(chance.choices(range(values), k=width)) for _ in range(share)})
                for name, width in question.tables.items()
            })
            for prices in (None, {pair: chance.randrange(SIXTY) for pair in store}):
                paper = strike_paper(question, store, prices=prices)
                self.assertIs(is_strike_paper(question, store, paper, prices=prices), True)
                self.assertGreater(len(paper[1]), 0)


class JudgesTest(RefusingCase):

    def test_all_strikes(self):
        chance = random.Random(11)
        seen = 0
        for _ in range(25):
            question = chance.choice((*LINES, *WALLS))
            store = store_for(chance, question, most=3, values=2)
            kept = some_kept(chance, question)
            pairs = list(store)[:9]
            for many in range(len(pairs) + 1):
                for some in itertools.combinations(pairs, many):
                    right = is_strike_by_words(question, store, some, kept)
                    self.assertIs(is_strike(question, store, some, kept=kept), right)
                    seen += right
        self.assertGreater(seen, 100)

    def test_all_loads(self):
        chance = random.Random(12)
        seen = 0
        for _ in range(25):
            question = chance.choice((*LINES, *WALLS))
            store = store_for(chance, question, most=3, values=2)
            prices, kept = some_prices(chance, store, 2), some_kept(chance, question)
            readings = all_readings(question, store)[:4]
            for times in itertools.product(range(3), repeat=len(readings)):
                load = tuple((reading, many) for reading, many in zip(readings, times) if many)
                right = is_load_by_words(question, store, load, prices, kept)
                self.assertIs(is_load(question, store, load, prices=prices, kept=kept), right)
                seen += right
        self.assertGreater(seen, 50)

    def test_strikes(self):
        strike = (("r", (1, 2)), ("r", (1, 3)), ("r", (4, 3)))
        self.assertIs(is_strike(PATH, STORE, strike), True)
        for value in (
            *VALUES, strike[::-1], (*strike, strike[-1]), (strike[0], *strike), list(strike), strike[:2], strike[1:],
            (*strike, ("t", (4, 6))), (*strike, ("s", (9, 9))), (*strike, ("s", (2, True))), (*strike, None),
            (("r", (1, 2)), ("r", (1, 3)), ("r", [4, 3])), (["r", (1, 2)], *strike[1:]), (*strike, ("x", (1, 2))),
        ):
            self.assertIs(is_strike(PATH, STORE, value), False, value)
        self.assertIs(is_strike(PATH, STORE, (*strike, ("s", (2, 5)))), True)
        self.assertIs(is_strike(PATH, STORE, strike, kept=("r",)), False)
        self.assertIs(is_strike(PATH, STORE, strike, kept=("s",)), True)
        self.assertIs(is_strike(RING, STORE, (("t", (4, 6)),)), True)
        self.assertIs(is_strike(RING, STORE, (("t", (4, 6)),), kept=("r", "s")), True)
        self.assertIs(is_strike(RING, STORE, (("t", (4, 6)),), kept=("t",)), False)
        self.assertIs(is_strike(RING, STORE, (("r", (1, 2)),)), False)

    def test_true_is_not_one(self):
        one = asking("r a b")
        store = table("r", (0, 1))
        self.assertIs(is_strike(one, store, (("r", (0, 1)),)), True)
        self.assertIs(is_strike(one, store, (("r", (0, True)),)), False)
        self.assertIs(is_strike(one, store, (("r", (False, 1)),)), False)
        self.assertIs(is_load(one, store, (((0, 1), 1),)), True)
        for load in ((((0, True), 1),), (((0, 1), True),), (((False, 1), 1),)):
            self.assertIs(is_load(one, store, load), False)
        for prices in ({("r", (0, True)): 1}, {("r", (0, 1)): True}, {("r", (False, 1)): 1}):
            self.refused(InvalidOperation, is_load, one, store, (), prices=prices)

    def test_loads(self):
        load = (((1, 2, 5), 1), ((1, 3, 6), 1), ((4, 3, 5), 1))
        self.assertIs(is_load(PATH, STORE, load), True)
        self.assertIs(is_load(PATH, STORE, ()), True)
        for value in (
            *[value for value in VALUES if value != ()], load[::-1], (*load, load[-1]), (load[0], *load), list(load),
            (((1, 2, 5), 0),), (((1, 2, 5), -1),), (((1, 2, 5), True),), (((1, 2, 5), 2),), (((1, 2, 6), 1),),
            (((1, 2), 1),), (((1, 2, 5, 5), 1),), (((1, 2, 5),),), (((1, 2, 5), 1, 1),), ([(1, 2, 5), 1],),
            (([1, 2, 5], 1),), (((1, 2, 5), None),), (((1, 2, 5), SIXTY_ONE),), (*load, ((4, 3, 6), 1)),
            (((1, 2, 5), 1), ((1, 2, 5), 2)), (((True, 2, 5), 1),),
        ):
            self.assertIs(is_load(PATH, STORE, value), False, value)
        double = {("r", (1, 2)): 2, ("s", (2, 5)): 3}
        self.assertIs(is_load(PATH, STORE, (((1, 2, 5), 2),), prices=double), True)
        self.assertIs(is_load(PATH, STORE, (((1, 2, 5), 3),), prices=double), False)
        self.assertIs(is_load(PATH, STORE, (((1, 2, 5), 3),), prices=double, kept=("r",)), True)
        self.assertIs(is_load(PATH, STORE, (((1, 2, 5), 4),), prices=double, kept=("r",)), False)
        # The same reading told twice has its times told apart.
        self.assertIs(is_load(PATH, STORE, (((1, 2, 5), 1), ((1, 2, 5), 1)), prices=double), False)
        self.assertIs(is_load(RING, STORE, (((4, 3, 6), 1),)), True)
        self.assertIs(is_load(RING, STORE, (((4, 3, 6), 2),)), False)

    def test_papers_without_a_line(self):
        paper = ((("t", (4, 6)),), (((4, 3, 6), 1),))
        self.assertIs(is_strike_paper(RING, STORE, paper), True)
        strike, load = paper
        for value in (*VALUES, paper[::-1], (strike, ()), ((), load), (strike,), (*paper, ()), list(paper), (list(strike), load),
                      ((("r", (4, 3)), ("t", (4, 6))), load), (strike, list(load))):
            self.assertIs(is_strike_paper(RING, STORE, value), False, value)
        self.assertIs(is_strike_paper(RING, STORE, ((("r", (4, 3)), ("t", (4, 6))), load),
                                      prices={("r", (4, 3)): 0}), False)
        self.assertIs(is_strike_paper(RING, STORE, ((("r", (4, 3)), ("t", (4, 6))), load),
                                      prices={("s", (3, 6)): 1, ("t", (4, 6)): 1, ("r", (4, 3)): 1}), False)
        many = {("r", (4, 3)): 2, ("s", (3, 6)): 3, ("t", (4, 6)): 2}
        self.assertIs(is_strike_paper(RING, STORE, (strike, (((4, 3, 6), 2),)), prices=many), True)
        self.assertIs(is_strike_paper(RING, STORE, (strike, (((4, 3, 6), 3),)), prices=many), False)
        self.assertIs(is_strike_paper(RING, STORE, ((("s", (3, 6)),), (((4, 3, 6), 2),)), prices=many), False)

    def test_many_readings_in_a_load(self):
        wide = Store({"r": 2, "s": 2}, {"r": tuple((i, 0) for i in range(1000)), "s": tuple((0, i) for i in range(1000))})
        load = tuple(((i, 0, i), 1) for i in range(1000))
        self.assertIs(is_load(PATH, wide, load), True)
        self.assertIs(is_strike_paper(PATH, wide, (tuple(("s", (0, i)) for i in range(1000)), load)), True)
        self.assertIs(is_strike_paper(PATH, wide, (tuple(("s", (0, i)) for i in range(999)), load)), False)


class ForcedNumbersTest(RefusingCase):

    def test_against_searches(self):
        chance = random.Random(21)
        seen = set()
        for at in range(150):
            question = chance.choice((*LINES, *WALLS)) if at % 3 else some_shape(chance, letters="abcd", many=3)
            store = store_for(chance, question, most=4, values=2)
            if len(all_readings(question, store)) <= 10:
                right = cheapest_by_search(question, store), most_apart(question, store)
                self.assertEqual(forced_numbers(question, store), right)
                seen.add(right)
        self.assertGreater(len(seen), 3)

    def test_the_fewest_struck_rows_are_more(self):
        points = ((0, 1, 2), (3, 1, 2), (3, 4, 2), (3, 4, 5), (6, 4, 5), (6, 7, 5), (6, 7, 8), (0, 7, 8), (0, 1, 8))
        store = Store(RING.tables, {
            "r": tuple({(a, b) for a, b, _ in points}), "s": tuple({(b, c) for _, b, c in points}),
            "t": tuple({(a, c) for a, _, c in points}),
        })
        self.assertEqual(forced_numbers(RING, store), (5, 4))
        # A question without a line, so that no paper is told; and a paper cannot be.
        self.refused(InvalidOperation, strike_paper, RING, store)

    def test_lines_have_equal_numbers(self):
        chance = random.Random(22)
        for _ in range(60):
            question = chance.choice(LINES)
            store = store_for(chance, question, most=4)
            if count_readings(question, store) <= 16:
                one, other = forced_numbers(question, store)
                self.assertEqual((one, other), (len(cheapest_strike(question, store)), other))
                self.assertEqual(one, other)

    def test_sixteen_readings(self):
        one = asking("r a", "t b")
        four = Store({"r": 1, "t": 1}, {"r": tuple((i,) for i in range(4)), "t": tuple((i,) for i in range(4))})
        self.assertEqual(forced_numbers(one, four), (4, 4))
        more = table("r", *[(i,) for i in range(16)])
        self.assertEqual(forced_numbers(asking("r a"), more), (16, 16))
        self.refused(TooMany, forced_numbers, asking("r a"), more.with_row("r", (16,)), keeps=("limit", 16))
        self.refused(TooMany, forced_numbers, one, four.with_row("r", (4,)), keeps=("limit", 16))
        wide = Store({"r": 2, "s": 2}, {"r": tuple((i, 0) for i in range(1500)), "s": tuple((0, i) for i in range(1500))})
        self.refused(TooMany, forced_numbers, PATH, wide, keeps=("limit", 16))
        # All common rows, and none.
        star = shape("a", "b", "c", "d")
        two = Store(star.tables, {name: ((0,), (1,)) for name in star.tables})
        self.assertEqual(forced_numbers(star, two), (2, 2))


class WrongArgumentsTest(RefusingCase):

    calls = (
        lambda *values, **more: cheapest_strike(*values, **more),
        lambda *values, **more: greatest_load(*values, **more),
        lambda *values, **more: strike_paper(*values, **more),
        lambda *values, **more: is_strike(*values, (), **more),
        lambda *values, **more: is_load(*values, (), **more),
        lambda *values, **more: is_strike_paper(*values, ((), ()), **more),
    )

    def test_questions_and_stores(self):
        for value in VALUES:
            for call in self.calls:
                if not isinstance(value, Question):
                    self.refused(InvalidQuestion, call, value, value, prices=value, kept=value)
                if not isinstance(value, Store):
                    self.refused(InvalidStore, call, TWICE, value, prices=value, kept=value)
            if not isinstance(value, Question):
                self.refused(InvalidQuestion, forced_numbers, value, value)
            if not isinstance(value, Store):
                self.refused(InvalidStore, forced_numbers, TWICE, value)

    def test_prices(self):
        bent = ({("r", (9, 9)): 1}, {("r", (1, 2)): -1}, {("r", (1, 2)): SIXTY_ONE}, {("r", (1, 2)): None}, {"r": 1},
                {("x", (1, 2)): 1}, {("r", (1, 2), 1): 1}, (("r", (1, 2)), 1), {("r", (1, 2)): 1, None: 1},
                {("r", (1, 2)): (1,)}, {InvalidQuestion("a"): 1})
        for value in (*VALUES, *bent):
            if value is not None and value != {}:
                for call in self.calls:
                    self.refused(InvalidOperation, call, PATH, STORE, prices=value)
        for value in (None, {}, {("t", (4, 6)): SIXTY}, {("r", (1, 2)): 0}):
            for call in self.calls:
                call(PATH, STORE, prices=value)

    def test_kept(self):
        bent = (("r", "s"), ("s", "r"), ("r", "r"), ("t",), ("r", "t"), ["r"], "r", ("x",), (None,), (("r",),), ("a",))
        for value in (*VALUES, *bent):
            if value != () and value != ("r",):
                for call in self.calls:
                    self.refused(InvalidOperation, call, PATH, STORE, kept=value)
        for value in ((), ("r",), ("s",)):
            for call in self.calls:
                call(PATH, STORE, kept=value)
        one = asking("r a b")
        for call in self.calls:
            self.refused(InvalidOperation, call, one, STORE, kept=("r",))
        for call in self.calls[3:]:
            for value in (("s", "r"), ("r", "r"), ("t", "s"), ("r", "s", "t"), ("r", "x")):
                self.refused(InvalidOperation, call, RING, STORE, kept=value)
            for value in (("r", "s"), ("s", "t"), ("r", "t")):
                call(RING, STORE, kept=value)

    def test_what_comes_then(self):
        for call in self.calls:
            self.refused(InvalidOperation, call, RING, STORE.without_table("t"))
            self.refused(InvalidOperation, call, TWICE, STORE)
        self.refused(InvalidOperation, forced_numbers, RING, STORE.without_table("t"))
        self.refused(InvalidOperation, forced_numbers, TWICE, STORE)
        for call in (cheapest_strike, greatest_load, strike_paper):
            self.refused(InvalidOperation, call, RING, STORE)

    def test_keywords_only(self):
        for call in (cheapest_strike, greatest_load, strike_paper):
            with self.assertRaises(TypeError):
                call(PATH, STORE, None)
        for call in (is_strike, is_load, is_strike_paper):
            with self.assertRaises(TypeError):
                call(PATH, STORE, (), None)

    def test_prices_stay_as_they_are(self):
        prices = {("s", (3, 6)): 2, ("r", (1, 2)): 1}
        strike_paper(PATH, STORE, prices=prices, kept=("s",))
        is_strike_paper(PATH, STORE, ((), ()), prices=prices)
        self.assertEqual(list(prices.items()), [(("s", (3, 6)), 2), (("r", (1, 2)), 1)])


class FlowsTest(unittest.TestCase):

    def check(self, many, arcs):
        flows, reached = greatest_flow(many, arcs)
        for flow, (_, _, most) in zip(flows, arcs):
            self.assertTrue(0 <= flow <= most)
        for place in range(1, many - 1):
            self.assertEqual(sum(flow for flow, arc in zip(flows, arcs) if arc[1] == place),
                             sum(flow for flow, arc in zip(flows, arcs) if arc[0] == place))
        whole = sum(flow for flow, arc in zip(flows, arcs) if arc[0] == 0)
        self.assertTrue(reached[0] and not reached[-1])
        self.assertEqual(whole, sum(most for one, other, most in arcs if reached[one] and not reached[other]))
        paths = flow_paths(many, arcs, flows)
        self.assertEqual(whole, sum(times for _, times in paths))
        self.assertEqual(len(set(path for path, _ in paths)), len(paths))
        return whole

    def test_by_chance(self):
        chance = random.Random(31)
        wholes = set()
        for _ in range(200):
            many = chance.randint(2, 12)
            arcs = []
            for _ in range(chance.randint(0, 30)):
                one, other = sorted(chance.sample(range(many), 2))
                arcs.append((one, other, chance.choice((0, 1, 2, 5, SIXTY))))
            wholes.add(self.check(many, arcs))
        self.assertGreater(len(wholes), 10)

    def test_a_flow_that_must_turn_back(self):
        # The first path takes the middle arc, which the best flow does not.
        self.assertEqual(self.check(6, [(0, 1, 1), (0, 2, 1), (1, 4, 1), (1, 3, 1), (2, 4, 1), (3, 5, 1), (4, 5, 1)]), 2)


if __name__ == "__main__":
    unittest.main()
