"""Points 0.19, 12.3 and the class of joinhouse.order.layers."""

import itertools
import random
import unittest

from joinhouse.base.questions import Question
from joinhouse.base.readings import answers
from joinhouse.base.stores import Store
from joinhouse.errors import (
    InvalidNumber,
    InvalidOperation,
    InvalidQuestion,
    InvalidReading,
    InvalidStore,
    NotLayered,
    TooMany,
)
from joinhouse.order.layers import Ranked, is_layer_paper, is_layered, layered_order
from tests.brute import WIDTHS, all_readings, asking, shape, some_question, some_shape, some_store, store_for
from tests.samples import PATH, RING, SIXTY, SIXTY_ONE, STORE, TWICE, VALUES, RefusingCase

ORDER = ("b", "c", "a")
RANKED = Ranked(PATH, STORE, ORDER)


def lines_of(question, store, order):
    """The lines of all readings, ascending."""
    places = [question.columns.index(column) for column in order]
    return sorted(tuple(reading[place] for place in places) for reading in all_readings(question, store))


def product_store(question, many):
    """The store with all rows of so many values."""
    rows = {table: tuple(itertools.product(range(many), repeat=width)) for table, width in question.tables.items()}
    return Store(question.tables, rows)


class AgainstTheListTest(RefusingCase):

    def check(self, question, store, order):
        ranked = Ranked(question, store, order)
        lines = lines_of(question, store, order)
        places = [order.index(column) for column in question.columns]
        readings = [tuple(line[place] for place in places) for line in lines]
        self.assertEqual((ranked.total, ranked.question, ranked.store, ranked.order),
                         (len(lines), question, store, order))
        self.assertEqual([ranked.reading_at(at) for at in range(len(lines))], readings)
        self.assertEqual([ranked.index(reading) for reading in readings], list(range(len(lines))))
        self.assertEqual(ranked.part(0, len(lines)), tuple(readings))
        middle = len(lines) // 2
        self.assertEqual((ranked.part(middle, len(lines)), ranked.part(0, middle), ranked.part(middle, middle)),
                         (tuple(readings[middle:]), tuple(readings[:middle]), ()))
        self.assertTrue(all(reading in ranked for reading in readings))
        self.check_tuples(ranked, lines)
        self.check_heads(ranked, lines)
        return len(lines)

    def check_tuples(self, ranked, lines):
        """Checks `below`, `with_head` and `head_index` at tuples of values of all lengths."""
        domain = sorted({value for line in lines for value in line})
        some = [*domain[:3], *domain[-2:], *[value + 1 for value in domain[-1:]], 0, SIXTY]
        for length in range(len(ranked.order) + 1):
            chosen = list(itertools.product(some, repeat=length)) if length < 3 else [
                (*line[:length - 1], value) for line in lines[::3] for value in some]
            for values in [*chosen, *[line[:length] for line in lines]]:
                below = len([line for line in lines if line < values])
                head = len([line for line in lines if line[:length] == values])
                self.assertEqual((ranked.below(values), ranked.with_head(values)), (below, (below, head)))
                heads = sorted({line[:length] for line in lines})
                if values in heads:
                    self.assertEqual(ranked.head_index(values), heads.index(values))
                else:
                    self.refused(InvalidOperation, ranked.head_index, values)

    def check_heads(self, ranked, lines):
        for length in range(len(ranked.order) + 1):
            heads = sorted({line[:length] for line in lines})
            self.assertEqual(ranked.count_heads(length), len(heads))
            self.assertEqual([ranked.head_at(length, at) for at in range(len(heads))], heads)
            self.refused(InvalidNumber, ranked.head_at, length, len(heads), keeps=("value", len(heads)))

    def test_each_layered_order(self):
        for question in (PATH, shape("ab", "bc", "bd"), shape("abc", "bcd"), shape("ab", "c"), shape("a", "b"),
                         shape("aba", "bc", "c")):
            chance = random.Random(1)
            for order in itertools.permutations(question.columns):
                if is_layered(question, order):
                    store = STORE if question is PATH else store_for(chance, question, most=6, values=3)
                    self.check(question, store, order)

    def test_by_chance(self):
        chance = random.Random(2)
        found = 0
        for at in range(150):
            if at % 2:
                question = some_question(chance, letters="abcd", most=3)
                store = some_store(chance, most=8, values=3)
            else:
                question = some_shape(chance, letters="abcd", most=4)
                store = store_for(chance, question, most=8, values=3)
            orders = [order for order in itertools.permutations(question.columns) if is_layered(question, order)]
            if orders:
                found += self.check(question, store, chance.choice(orders)) > 3
        self.assertGreater(found, 30)

    def test_no_readings(self):
        for question, store in ((PATH, STORE.without_row("s", (2, 5)).without_row("s", (3, 5)).without_row("s", (3, 6))),
                                (PATH, Store({"r": 2, "s": 2}, {})), (PATH, Store({"r": 2, "s": 2}, {"r": ((1, 2),)})),
                                (asking("r a b", "t c"), Store(WIDTHS, {"r": ((1, 2),)})),
                                (asking("t c", "r a b"), Store(WIDTHS, {"t": ((1,),)}))):
            for order in itertools.permutations(question.columns):
                if is_layered(question, order):
                    self.check(question, store, order)
                    ranked = Ranked(question, store, order)
                    self.assertEqual((ranked.total, ranked.count_heads(0), ranked.part(0, 0)), (0, 0, ()))
                    self.assertEqual(ranked.with_head(()), (0, 0))
                    self.refused(InvalidOperation, ranked.head_index, ())
                    self.refused(InvalidNumber, ranked.reading_at, 0, keeps=("value", 0))

    def test_answers_by_their_number(self):
        chance = random.Random(3)
        found = 0
        for _ in range(60):
            question = some_shape(chance, letters="abcd", most=3)
            order = layered_order(question, begin=question.asked)
            if order is not None:
                store = store_for(chance, question, most=8, values=3)
                ranked = Ranked(question, store, order)
                many = len(question.asked)
                told = tuple(ranked.head_at(many, at) for at in range(ranked.count_heads(many)))
                self.assertEqual(told, answers(question, store))
                found += len(told) > 1
        self.assertGreater(found, 15)


class GreatNumbersTest(RefusingCase):

    def test_a_line_of_columns(self):
        path = shape("ab", "bc", "cd", "de", "ef", "fg", "gh")
        ranked = Ranked(path, product_store(path, 20), tuple("abcdefgh"))
        self.assertEqual(ranked.total, 20 ** 8)
        self.assertEqual(ranked.reading_at(20 ** 8 - 1), (19,) * 8)
        for number in (0, 1, 12345678901, 20 ** 8 - 2):
            figures = tuple(number // 20 ** at % 20 for at in range(7, -1, -1))
            self.assertEqual(ranked.reading_at(number), figures)
            self.assertEqual(ranked.index(figures), number)
            self.assertEqual(ranked.below(figures), number)
            self.assertIn(figures, ranked)
        self.assertEqual([ranked.count_heads(at) for at in range(9)], [20 ** at for at in range(9)])
        self.assertEqual(ranked.with_head((3, 7)), (67 * 20 ** 6, 20 ** 6))
        self.assertEqual(ranked.below((3, 20)), 4 * 20 ** 7)
        self.assertEqual(ranked.head_at(3, 4321), (10, 16, 1))
        self.assertEqual(str(ranked), "25600000000 readings by a b c d e f g h")
        turned = Ranked(path, product_store(path, 20), tuple("dcebfagh"))
        self.assertEqual(turned.reading_at(1), (0, 0, 0, 0, 0, 0, 0, 1))
        self.assertEqual(turned.reading_at(20 ** 7), (0, 0, 0, 1, 0, 0, 0, 0))

    def test_loose_columns(self):
        loose = shape(*"abcdefgh")
        store = Store(loose.tables, {table: tuple((at,) for at in range(375)) for table in loose.tables})
        ranked = Ranked(loose, store, tuple("hgfedcba"))
        self.assertEqual((len(store), ranked.total), (3000, 375 ** 8))
        self.assertEqual(ranked.reading_at(375 ** 7 + 1), (1, 0, 0, 0, 0, 0, 0, 1))
        self.assertEqual(ranked.index((374,) * 8), 375 ** 8 - 1)
        self.assertEqual(ranked.count_heads(5), 375 ** 5)
        self.refused(InvalidNumber, ranked.reading_at, 375 ** 8, keeps=("value", 375 ** 8))
        self.assertEqual(ranked.part(375 ** 8, 375 ** 8), ())

    def test_parts(self):
        pair = shape("a", "b")
        store = Store(pair.tables, {"ta": tuple((at,) for at in range(300)), "tb": tuple((at,) for at in range(70))})
        ranked = Ranked(pair, store, ("a", "b"))
        self.assertEqual(ranked.total, 21000)
        self.assertEqual(ranked.part(19000, 21000), tuple((at // 70, at % 70) for at in range(19000, 21000)))
        self.refused(TooMany, ranked.part, 18999, 21000, keeps=("limit", 2000))
        self.refused(TooMany, ranked.part, 0, 2001, keeps=("limit", 2000))
        self.assertEqual(len(ranked.part(0, 2000)), 2000)
        self.refused(InvalidNumber, ranked.part, 0, 21001, keeps=("value", 21001))
        self.refused(InvalidNumber, ranked.part, 21001, 21001, keeps=("value", 21001))
        self.refused(InvalidNumber, ranked.part, 5, 4, keeps=("value", 4))
        self.refused(InvalidNumber, ranked.part, -1, 4000, keeps=("value", -1))


class RankedTest(RefusingCase):

    def test_equality(self):
        self.assertTrue(RANKED == Ranked(PATH, Store(STORE.tables, {t: STORE.rows(t) for t in STORE.tables}), ORDER))
        for value in (*VALUES, Ranked(PATH, STORE, ("b", "a", "c")), Ranked(PATH.asking(), STORE, ORDER),
                      Ranked(PATH, STORE.with_row("t", (7, 7)), ORDER), RANKED.total, str(RANKED)):
            self.assertTrue(RANKED != value)
            self.assertFalse(RANKED == value)
        self.assertEqual(str(RANKED), "5 readings by b c a")

    def test_members(self):
        for value in (*VALUES, (1, 2, 6), (1, True, 5), [1, 2, 5], (1, 2), (1, 2, 5, 5), (2, 5, 1), ("1", "2", "5")):
            self.assertNotIn(value, RANKED)
            self.refused(InvalidReading, RANKED.index, value)
        self.assertIn((1, 2, 5), RANKED)
        true = Ranked(PATH, Store({"r": 2, "s": 2}, {"r": ((1, 1),), "s": ((1, 1),)}), ORDER)
        self.assertIn((1, 1, 1), true)
        self.assertNotIn((1, True, 1), true)
        self.refused(InvalidReading, true.index, (True, 1, 1))
        self.refused(InvalidOperation, true.below, (True,))
        self.refused(InvalidOperation, true.head_index, (True,))
        self.assertEqual(true.head_index((1,)), 0)
        for call in (lambda: iter(RANKED), lambda: len(RANKED), lambda: RANKED[0], lambda: RANKED < RANKED):
            with self.assertRaises(TypeError):
                call()

    def test_wrong_numbers(self):
        for value in VALUES:
            good = value.__class__ is int
            if not good or not 0 <= value < 5:
                self.refused(InvalidNumber, RANKED.reading_at, value, keeps=("value", value))
                self.refused(InvalidNumber, RANKED.head_at, 3, value, keeps=("value", value))
            if not good or not 0 <= value <= 5:
                self.refused(InvalidNumber, RANKED.part, value, None, keeps=("value", value))
                self.refused(InvalidNumber, RANKED.part, 0, value, keeps=("value", value))
            if not good or not 0 <= value <= 3:
                self.refused(InvalidNumber, RANKED.count_heads, value, keeps=("value", value))
                self.refused(InvalidNumber, RANKED.head_at, value, None, keeps=("value", value))
            if not good or value != 0:
                self.refused(InvalidNumber, RANKED.head_at, 0, value, keeps=("value", value))
        for value in (6, -1, True):
            self.refused(InvalidNumber, RANKED.part, value, 0, keeps=("value", value))
            self.refused(InvalidNumber, RANKED.part, 0, value, keeps=("value", value))
        for value in (4, -1, True):
            self.refused(InvalidNumber, RANKED.count_heads, value, keeps=("value", value))
            self.refused(InvalidNumber, RANKED.head_at, value, 0, keeps=("value", value))
        self.assertEqual(RANKED.head_at(0, 0), ())
        self.assertEqual(RANKED.part(5, 5), ())

    def test_wrong_tuples(self):
        for value in (*VALUES, (1, 2, 3, 4), (1, None), (1, -1), (SIXTY_ONE,), (True,), [1], (1, [2]), "12", ("1",)):
            if value not in ((), (1,), (1, 2)):
                for call in (RANKED.below, RANKED.with_head, RANKED.head_index):
                    self.refused(InvalidOperation, call, value)
        for values in ((), (1,), (1, 2), (0, 0, 0), (SIXTY,), (9, 9, 9)):
            self.assertIn(RANKED.below(values), range(6))
        for values in ((1,), (3, 7), (3, 5, 2), (9, 9, 9)):
            self.refused(InvalidOperation, RANKED.head_index, values)
        self.assertEqual((RANKED.head_index(()), RANKED.with_head(()), RANKED.below(())), (0, (0, 5), 0))

    def test_wrong_arguments(self):
        for value in VALUES:
            if not isinstance(value, Question):
                self.refused(InvalidQuestion, Ranked, value, STORE, ORDER)
                self.refused(InvalidQuestion, Ranked, value, value, value)
            if not isinstance(value, Store):
                self.refused(InvalidStore, Ranked, PATH, value, ORDER)
                self.refused(InvalidStore, Ranked, PATH, value, value)
            self.refused(InvalidOperation, Ranked, PATH, STORE, value)
            self.refused(InvalidOperation, Ranked, RING, STORE.without_table("t"), value)
        self.refused(InvalidOperation, Ranked, RING, STORE.without_table("t"), ("a", "b", "c"))
        self.refused(InvalidOperation, Ranked, PATH, Store({"r": 2, "s": 3}, {}), ORDER)
        for order in (("a", "b"), ("a", "b", "c", "d"), ("a", "b", "b"), list(ORDER), ("a", "b", "d")):
            self.refused(InvalidOperation, Ranked, PATH, STORE, order)

    def test_not_layered(self):
        self.refused(NotLayered, Ranked, PATH, STORE, ("a", "c", "b"), keeps=("reason", ("trio", "a", "c", "b")))
        chance = random.Random(4)
        seen = 0
        for _ in range(150):
            question = some_shape(chance, letters="abcde")
            order = tuple(chance.sample(question.columns, len(question.columns)))
            if not is_layered(question, order):
                seen += 1
                with self.assertRaises(NotLayered) as caught:
                    Ranked(question, store_for(chance, question), order)
                self.assertIn(caught.exception.reason[0], ("trio", "crown"))
                self.assertIs(is_layer_paper(question, order, caught.exception.reason), True)
        self.assertGreater(seen, 30)
        for order in itertools.permutations("abc"):
            self.refused(NotLayered, Ranked, RING, STORE, order, keeps=("reason", ("crown", ("a", "b", "c"))))

    def test_a_table_in_two_clauses(self):
        ranked = Ranked(TWICE, STORE, ("b", "a", "c"))
        self.assertEqual(ranked.part(0, 5), ((1, 2, 1), (1, 3, 1), (1, 3, 4), (4, 3, 1), (4, 3, 4)))


if __name__ == "__main__":
    unittest.main()
