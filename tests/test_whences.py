"""Points 0.22, 8.1, 8.2 and the functions of joinhouse.count.whence."""

import itertools
import random
import unittest

from joinhouse.base.questions import Question, are_alike
from joinhouse.base.readings import answers, count_of
from joinhouse.base.stores import Store, fits, frozen
from joinhouse.count.whence import (
    Whence,
    is_parting_whence,
    lost_with,
    parting_whence,
    whence_of,
    whences,
)
from joinhouse.errors import InvalidOperation, InvalidQuestion, InvalidStore, TooMany
from joinhouse.fold.maps import each_map
from tests.brute import WIDTHS, all_answers, all_readings, asking, edges, shuffled, some_question, some_store, table
from tests.samples import PATH, RING, STORE, TWICE, VALUES, RefusingCase

ONCE = asking("r a b", "asked a")
KINDS = (
    PATH, TWICE, TWICE.full, TWICE.asking(), ONCE, asking("r a a", "asked a"), asking("w a b a", "t b"),
    asking("w a a a", "t a", "r a b", "asked b"), asking("r a b", "r b a", "asked b a"),
    asking("r a b", "r b c", "r c a", "asked c"), asking("t a", "t b", "t c", "asked c a"), asking("r a b", "s c d"),
)


def all_products(question, store):
    """For each answer the numbers of its products, reading by reading."""
    found = {}
    for reading in all_readings(question, store):
        led = dict(zip(question.columns, reading))
        times = {}
        for name, columns in question.clauses:
            pair = (name, tuple(led[column] for column in columns))
            times[pair] = times.get(pair, 0) + 1
        product = tuple(sorted((*pair, many) for pair, many in times.items()))
        parts = found.setdefault(tuple(led[column] for column in question.asked), {})
        parts[product] = parts.get(product, 0) + 1
    return found


class WhencesTest(RefusingCase):

    def check(self, question, store):
        right = all_products(question, store)
        told = whences(question, store)
        self.assertEqual(list(told), sorted(right))
        self.assertEqual({answer: told[answer].parts for answer in told}, right)
        for answer in itertools.product((*store.domain[:3], 98), repeat=len(question.asked)):
            one = whence_of(question, store, answer)
            self.assertEqual(one.parts, right.get(answer, {}))
            self.assertEqual(one.ways, count_of(question, store, answer))
        for answer in right:
            self.assertEqual(told[answer].ways, all_answers(question, store)[answer])
            self.assertTrue(all(sum(times for _, _, times in product) == len(question) for product in told[answer]))
        return sum(len(parts) for parts in right.values())

    def test_each_kind(self):
        chance = random.Random(1)
        for question in KINDS:
            for _ in range(6):
                self.check(question, some_store(chance, values=3))
            self.check(question, Store(WIDTHS, {}))

    def test_by_chance(self):
        chance = random.Random(2)
        found = [self.check(some_question(chance), some_store(chance, most=8, values=3)) for _ in range(300)]
        self.assertGreater(len([many for many in found if many > 2]), 50)

    def test_one_reading_in_two_ways(self):
        both = asking("r a b", "r c b", "asked b")
        one = whence_of(both, table("r", (1, 5), (2, 5)), (5,))
        self.assertEqual(str(one), "2 r(1 5) r(2 5) + r(1 5)^2 + r(2 5)^2")
        self.assertEqual((one.ways, len(one)), (4, 3))

    def test_no_answers(self):
        for question in (PATH, TWICE, RING):
            for value in (*VALUES, (1, True), (True,), [1, 5], (1, 5, 5), (1,), ("1", "5"), (1, 9), (-1, 5)):
                if not (question is RING and value == ()) and not (question is TWICE and value == (1,) and value[0] is not True):
                    self.assertEqual(whence_of(question, STORE, value), Whence({}), value)
        self.assertEqual(whence_of(RING, STORE, ()).ways, 1)
        self.assertEqual(whence_of(RING, STORE.without_row("t", (4, 6)), ()), Whence({}))

    def test_amounts_of_rows(self):
        chance = random.Random(3)
        for question in KINDS:
            store = some_store(chance, values=3)
            for pair in list(store)[:5]:
                less = whences(question, store.without_row(*pair))
                for answer, one in whences(question, store).items():
                    self.assertEqual(one.evaluated({pair: 0}), less[answer].ways if answer in less else 0)
                    self.assertEqual(one.without((pair,)), less.get(answer, Whence({})))

    def test_maps_and_other_names(self):
        chance = random.Random(4)
        for _ in range(60):
            question = some_question(chance)
            store = some_store(chance, values=3)
            told = whences(question, store)
            names = dict(zip(question.columns, chance.sample("abcxyz", len(question.columns))))
            self.assertEqual(whences(question.renamed(names), store), told)
            other = shuffled(chance, store)
            self.assertEqual(sorted(one.ways for one in whences(question, other).values()),
                             sorted(one.ways for one in told.values()))
            both = store + other
            self.assertTrue(set(told) <= set(whences(question, both)))

    def test_products_of_stores(self):
        for question in (PATH, TWICE, ONCE):
            one, other = STORE, STORE.folded({1: 1, 2: 1, 3: 3, 4: 4, 5: 1, 6: 3})
            whole = sum(made.ways for made in whences(question, one * other).values())
            self.assertEqual(whole, sum(x.ways for x in whences(question, one).values())
                             * sum(x.ways for x in whences(question, other).values()))

    def test_limits(self):
        three = asking("t a", "t b", "u c", "asked a")
        for many, more in ((100, 2), (10, 200)):
            rows = {"t": tuple((at,) for at in range(many)), "u": tuple((at,) for at in range(more))}
            store = Store({"t": 1, "u": 1}, rows)
            self.assertEqual(sum(one.ways for one in whences(three, store).values()), 20000)
            self.assertEqual(whence_of(three, store, (1,)).ways, many * more)
            self.assertEqual(lost_with(three, store, (("t", (0,)),)), ((0,),))
            beyond = store.with_row("u", (more,))
            for call in (lambda: whences(three, beyond), lambda: whence_of(three, beyond, (1,)),
                         lambda: whence_of(three, beyond, None), lambda: lost_with(three, beyond, ())):
                self.refused(TooMany, call, keeps=("limit", 20000))
        pair = asking("t a", "u b")
        store = Store({"t": 1, "u": 1}, {"t": tuple((at,) for at in range(59)), "u": tuple((at,) for at in range(339))})
        self.refused(TooMany, whences, pair, store, keeps=("limit", 20000))
        self.assertEqual(len(whence_of(pair, store.without_row("u", (0,)), ())), 59 * 338)

    def test_wrong_arguments(self):
        for value in VALUES:
            if not isinstance(value, Question):
                self.refused(InvalidQuestion, whences, value, value)
                self.refused(InvalidQuestion, whence_of, value, None, ())
                self.refused(InvalidQuestion, lost_with, value, None, None)
            if not isinstance(value, Store):
                self.refused(InvalidStore, whences, PATH, value)
                self.refused(InvalidStore, whence_of, PATH, value, None)
                self.refused(InvalidStore, lost_with, PATH, value, None)
        less = STORE.without_table("t")
        self.refused(InvalidOperation, whences, RING, less)
        self.refused(InvalidOperation, whence_of, RING, less, ())
        self.refused(InvalidOperation, lost_with, RING, less, ())


class LostTest(RefusingCase):

    def test_against_the_answers_of_less(self):
        chance = random.Random(5)
        lost = 0
        for _ in range(250):
            question = some_question(chance)
            store = some_store(chance, most=8, values=3)
            rows = tuple(sorted(pair for pair in store if chance.random() < 0.2))
            less = store
            for pair in rows:
                less = less.without_row(*pair)
            right = tuple(answer for answer in answers(question, store) if answer not in answers(question, less))
            self.assertEqual(lost_with(question, store, rows), right)
            lost += bool(right)
        self.assertGreater(lost, 30)

    def test_rows_of_other_tables(self):
        self.assertEqual(lost_with(PATH, STORE, (("t", (4, 6)),)), ())
        self.assertEqual(lost_with(RING, STORE, (("t", (4, 6)),)), ((),))
        self.assertEqual(lost_with(PATH, STORE, tuple(STORE)), answers(PATH, STORE))
        self.assertEqual(lost_with(PATH, STORE, ()), ())

    def test_wrong_rows(self):
        for value in (*VALUES, (("r", (1, 2)), ("r", (1, 2))), (("s", (2, 5)), ("r", (1, 2))), [("r", (1, 2))],
                      ("r", (1, 2)), (("r", (9, 9)),), (("z", (1, 2)),), (("r", (True, 2)),), (("r", [1, 2]),),
                      (("r", (1, 2), 1),), (("r", (1, 2)), None)):
            if value != ():
                self.refused(InvalidOperation, lost_with, PATH, STORE, value)


class PartingTest(RefusingCase):

    def some_pairs(self, chance, many):
        for _ in range(many):
            asked = chance.choice((0, 0, 1, 2))
            one = some_question(chance, many=asked, tables="rt", most=4)
            yield one, some_question(chance, many=asked, tables="rt", most=4)
            yield one, one.renamed(dict(zip(one.columns, chance.sample("abcxyz", len(one.columns)))))
            # Its clauses turned round: as many of them in each table.
            yield one, Question(tuple(sorted({(name, columns[::-1]) for name, columns in one.clauses})), one.asked)

    def differs(self, one, other, store, answer):
        return all_products(one, store).get(answer) != all_products(other, store).get(answer)

    def test_alike_or_parted(self):
        seen = [0, 0]
        for one, other in self.some_pairs(random.Random(6), 60):
            alike = are_alike(one, other)
            pair = parting_whence(one, other)
            self.assertEqual(pair is None, alike)
            if pair is not None:
                store, answer = pair
                self.assertTrue(fits(store, one) and fits(store, other))
                self.assertTrue(self.differs(one, other, store, answer))
                self.assertTrue(answer in answers(one, store) or answer in answers(other, store))
                self.assertIs(is_parting_whence(one, other, pair), True)
                self.assertIs(is_parting_whence(other, one, pair), True)
            seen[alike] += 1
        self.assertGreater(min(seen), 40)

    def test_the_judge(self):
        chance = random.Random(7)
        seen = [0, 0]
        for one, other in self.some_pairs(chance, 40):
            store = some_store(chance, tables="rt", values=2)
            for answer in itertools.product((*store.domain, 98), repeat=len(one.asked)):
                right = self.differs(one, other, store, answer)
                self.assertIs(is_parting_whence(one, other, (store, answer)), right)
                self.assertFalse(right and are_alike(one, other))
                seen[right] += 1
        self.assertGreater(min(seen), 50)

    def test_the_same_counts_in_a_store(self):
        store = table("r", (1, 1))
        self.assertEqual(count_of(ONCE, store, (1,)), count_of(TWICE, store, (1,)))
        self.assertIs(is_parting_whence(ONCE, TWICE, (store, (1,))), True)

    def test_values_of_every_kind(self):
        frozen_once = (frozen(ONCE), (0,))
        self.assertIs(is_parting_whence(ONCE, TWICE, frozen_once), True)
        for value in (*VALUES, list(frozen_once), (*frozen_once, ()), (frozen(ONCE),), (frozen(ONCE), [0]),
                      (frozen(ONCE), (False,)), (frozen(ONCE), (1,)), (frozen(ONCE), ()), (frozen(ONCE), (0, 0)),
                      (frozen(ONCE), None), (frozen(ONCE).lines, (0,)), ((0,), frozen(ONCE)), (Store({"s": 2}, {}), (0,)),
                      (Store({"r": 3}, {}), (0,)), (Store({"r": 2}, {}), (0,))):
            self.assertIs(is_parting_whence(ONCE, TWICE, value), False, value)
        more = asking("r a b", "t b", "asked a")
        self.assertIs(is_parting_whence(ONCE, more, frozen_once), False)
        self.assertIs(is_parting_whence(more, ONCE, frozen_once), False)
        self.assertIs(is_parting_whence(more, ONCE, (frozen(ONCE).with_table("t", 1), (0,))), True)

    def test_too_many_readings_to_judge(self):
        two, three = asking("t a", "t b"), asking("t a", "t b", "t c")
        store = Store({"t": 1}, {"t": tuple((at,) for at in range(28))})
        less = store.without_row("t", (0,))
        for one, other in ((two, three), (three, two), (three, three)):
            self.refused(TooMany, is_parting_whence, one, other, (store, ()), keeps=("limit", 20000))
            self.assertIs(is_parting_whence(one, other, (less, ())), one is not other)
            self.assertIs(is_parting_whence(one, other, (store, None)), False)
            self.assertIs(is_parting_whence(one, other, store), False)
        self.assertIs(is_parting_whence(two, two, (store, ())), False)

    def test_many_readings_in_frozen_stores(self):
        eight = Question(tuple(sorted([("t", (letter,)) for letter in "abcdefgh"])), ())
        four = Question(tuple(sorted([("u" if letter > "d" else "t", (letter,)) for letter in "abcdefgh"])), ())
        five = Question(tuple(sorted([("u" if letter > "e" else "t", (letter,)) for letter in "abcdefgh"])), ())
        near = asking(*[f"t {letter}" for letter in "abcdefg"], "u h")
        for one, other in ((eight, eight.without_clause(("t", ("h",)))), (four, five), (four, near), (eight, near)):
            for pair in (parting_whence(one, other), parting_whence(other, one)):
                self.assertIs(is_parting_whence(one, other, pair), True)
        self.assertIsNone(parting_whence(eight, eight))

    def test_eight_clauses(self):
        chance = random.Random(8)
        for _ in range(30):
            one = edges(*["".join(chance.choices("abcdefgh", k=2)) for _ in range(8)])
            other = edges(*["".join(chance.choices("abcdefgh", k=2)) for _ in range(8)])
            pair = parting_whence(one, other)
            self.assertEqual(pair is None, are_alike(one, other))
            if pair is not None:
                self.assertIs(is_parting_whence(one, other, pair), True)

    def test_rows_in_the_place_of_rows(self):
        store = frozen(TWICE)
        for names in each_map(TWICE, TWICE):
            led = {TWICE.columns.index(column): TWICE.columns.index(name) for column, name in names.items()}
            answer = tuple(led[value] for value in (0,))
            self.assertLessEqual(set(whences(TWICE, store.folded(led))), set(whences(TWICE, store)))
            self.assertIn(answer, whences(TWICE, store))

    def test_wrong_arguments(self):
        for value in VALUES:
            if not isinstance(value, Question):
                for one, other in ((value, PATH), (PATH, value), (value, value)):
                    self.refused(InvalidQuestion, parting_whence, one, other)
                    self.refused(InvalidQuestion, is_parting_whence, one, other, value)
        for one, other in ((PATH, TWICE), (TWICE, asking("r a b c", "asked a")), (RING, ONCE)):
            self.refused(InvalidOperation, parting_whence, one, other)
            for value in VALUES:
                self.refused(InvalidOperation, is_parting_whence, one, other, value)


if __name__ == "__main__":
    unittest.main()
