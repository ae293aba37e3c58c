"""Points 0.13, 0.15, 5.1 and the functions of joinhouse.fold.maps on two questions."""

import inspect
import itertools
import random
import unittest

from joinhouse.base.questions import Question
from joinhouse.base.readings import count_of
from joinhouse.base.stores import Store, fits, frozen, frozen_answer
from joinhouse.errors import InvalidOperation, InvalidQuestion, TooMany
from joinhouse.fold.maps import (
    composed_maps,
    count_maps,
    each_map,
    find_map,
    has_all_answers,
    is_lost_answer,
    is_map,
    lost_answer,
    same_answers,
)
from tests.brute import WIDTHS, all_answers, all_maps, asking, edges, some_question, some_store
from tests.samples import PATH, RING, STORE, TWICE, VALUES, RefusingCase, SIXTY, SIXTY_ONE

WAY = asking("r a b", "r b c", "r c d", "asked a")
SELF = asking("r x x", "asked x")
SINGLE = asking("r a b", "asked a")
CALLS = (find_map, each_map, count_maps, has_all_answers, same_answers, lost_answer)
JUDGES = (is_map, is_lost_answer)


def some_pairs(chance, many):
    """Pairs of comparable questions, often with maps."""
    for at in range(many):
        asked = chance.choice((0, 0, 1, 1, 2))
        one = some_question(chance, many=asked, most=3, tables="rst" if at % 3 else "rw")
        other = some_question(chance, many=asked, most=5, tables="rst" if at % 2 else "r")
        yield one, other
        names = {column: chance.choice("xyz") for column in one.columns}
        folded = one.folded(names)
        if len(folded.asked) == len(one.asked):
            yield one, folded
            yield folded, one
            yield one, folded + other.asking()


def changed_ones(names, columns):
    """Dicts that differ from one at one entry, or have one less or one more."""
    for column in names:
        for other in (*columns, "q", None, True, 0, [], (), ["a"], "A"):
            if other != names[column] or isinstance(other, bool):
                yield {**names, column: other}
        yield {key: names[key] for key in names if key != column}
    for key in ("q", None, True, 0, (), "A"):
        yield {**names, key: columns[0]}


class AllMapsTest(RefusingCase):

    def check(self, one, other):
        right = all_maps(one, other)
        found = list(each_map(one, other))
        self.assertEqual(found, right)
        self.assertEqual([list(names) for names in found], [list(one.columns)] * len(found))
        self.assertEqual(count_maps(one, other), len(right))
        self.assertIs(has_all_answers(one, other), bool(right))
        names = find_map(one, other)
        if right:
            self.assertIn(names, right)
            self.assertEqual(list(names), list(one.columns))
            self.assertIs(is_map(one, other, names), True)
        else:
            self.assertIsNone(names)
        return right

    def test_by_chance(self):
        found = [len(self.check(one, other)) for one, other in some_pairs(random.Random(1), 150)]
        self.assertGreater(len([many for many in found if many > 1]), 40)
        self.assertGreater(len([many for many in found if not many]), 40)

    def test_both_ways(self):
        for one, other in some_pairs(random.Random(2), 60):
            there, back = self.check(one, other), self.check(other, one)
            self.assertIs(same_answers(one, other), bool(there and back))
            self.assertIs(same_answers(other, one), bool(there and back))

    def test_judged(self):
        for one, other in some_pairs(random.Random(3), 30):
            right = all_maps(one, other)
            for names in itertools.product((*other.columns, "q"), repeat=len(one.columns)):
                value = dict(zip(one.columns, names))
                self.assertIs(is_map(one, other, value), value in right)
                self.assertIs(is_map(one, other, {key: value[key] for key in reversed(value)}), value in right)
            for value in VALUES:
                self.assertIs(is_map(one, other, value), False)
            for names in right[:3]:
                self.assertIs(is_map(one, other, tuple(names.items())), False)
                for value in changed_ones(names, other.columns):
                    self.assertIs(is_map(one, other, value), value in right, value)

    def test_asked_columns_in_their_order(self):
        one = asking("r a b", "asked a b")
        self.assertEqual(find_map(one, one), {"a": "a", "b": "b"})
        self.assertIsNone(find_map(one, one.asking("b", "a")))
        both = asking("r a b", "r b a", "asked a b")
        self.assertEqual(list(each_map(one, both.asking("b", "a"))), [{"a": "b", "b": "a"}])
        self.assertEqual(count_maps(one.asking(), both.asking()), 2)
        self.assertIs(has_all_answers(asking("r a b", "asked b"), asking("r a b", "asked a")), False)

    def test_tables_that_one_only_has(self):
        more = asking("r a b", "t b", "asked a")
        self.assertIsNone(find_map(more, SINGLE))
        self.assertEqual(find_map(SINGLE, more), {"a": "a", "b": "b"})
        self.assertEqual((count_maps(more, SINGLE), list(each_map(more, SINGLE))), (0, []))
        self.assertIs(is_map(more, SINGLE, {"a": "a", "b": "b"}), False)
        self.assertEqual(count_maps(asking("u a"), asking("t a")), 0)

    def test_names_are_sorted_as_texts(self):
        one = asking("e ab b")
        other = asking("e z aa", "e aa b", "e b z")
        self.assertEqual(list(each_map(one, other)), [
            {"ab": "aa", "b": "b"}, {"ab": "b", "b": "z"}, {"ab": "z", "b": "aa"}])

    def test_composed(self):
        chance = random.Random(4)
        composed = 0
        for _ in range(400):
            first, second, third = [some_question(chance, letters="ab", tables="rt", many=1) for _ in range(3)]
            for one in all_maps(first, second)[:3]:
                for other in all_maps(second, third)[:3]:
                    both = composed_maps(one, other)
                    self.assertIs(is_map(first, third, both), True)
                    self.assertEqual(both, {key: other[one[key]] for key in one})
                    composed += 1
        self.assertGreater(composed, 20)

    def test_composed_dicts(self):
        both = composed_maps({"b": "x", "a": "y"}, {"y": "q", "z": "p", "x": "q"})
        self.assertEqual((both, list(both)), ({"a": "q", "b": "q"}, ["a", "b"]))
        self.assertEqual(composed_maps({}, {}), {})
        self.assertEqual(composed_maps({}, {"a": "b"}), {})
        for first, second in (({"a": "b"}, {}), ({"a": "b"}, {"a": "b"}), ({"a": "b", "b": "c"}, {"b": "b"})):
            self.refused(InvalidOperation, composed_maps, first, second)
        for value in VALUES:
            self.refused(InvalidOperation, composed_maps, {"a": value} if value != "a" else {"a": "b"}, {"a": "c"})
            if not isinstance(value, dict):
                self.refused(InvalidOperation, composed_maps, value, {"a": "b"})
                self.refused(InvalidOperation, composed_maps, {}, value)
                self.refused(InvalidOperation, composed_maps, value, value)


class AnswersInAllStoresTest(RefusingCase):

    def test_maps_tell_it(self):
        """Where there is a map no store by chance loses an answer, where there is none the frozen one does."""
        chance = random.Random(5)
        for one, other in some_pairs(chance, 60):
            widths = {name: WIDTHS[name] for name in "rstw"}
            stores = [some_store(chance, values=3) for _ in range(3)] + [frozen(other) + Store(widths, {})]
            lost = [store for store in stores if set(all_answers(other, store)) - set(all_answers(one, store))]
            if has_all_answers(one, other):
                self.assertEqual(lost, [])
            else:
                self.assertIn(stores[3], lost)

    def test_lost_answers(self):
        lost = 0
        for one, other in some_pairs(random.Random(6), 120):
            pair = lost_answer(one, other)
            self.assertIs(pair is None, bool(all_maps(one, other)))
            if pair is not None:
                self.assertEqual((pair.__class__, len(pair)), (tuple, 2))
                self.assertIs(is_lost_answer(one, other, pair), True)
                store, answer = pair
                self.assertTrue(fits(store, one) and fits(store, other))
                self.assertGreater(count_of(other, store, answer), 0)
                self.assertEqual(count_of(one, store, answer), 0)
                lost += 1
        self.assertGreater(lost, 50)

    def test_judged_by_readings(self):
        chance = random.Random(7)
        for one, other in some_pairs(chance, 60):
            store = some_store(chance, values=2)
            missed, right = all_answers(one, store), all_answers(other, store)
            for answer in itertools.product((*store.domain, 5), repeat=len(other.asked)):
                self.assertIs(is_lost_answer(one, other, (store, answer)), answer in right and answer not in missed)
                self.assertIs(is_lost_answer(one, other, (store, (*answer, 5))), False)

    def test_every_other_form(self):
        store, answer = frozen(WAY), (0,)
        self.assertIs(is_lost_answer(SELF, WAY, (store, answer)), True)
        self.assertIs(is_lost_answer(SELF, WAY, (store + STORE, answer)), True)
        for value in (*VALUES, [store, answer], (store, [0]), (store,), (store, answer, answer), (answer, store),
                      (store, 0), (store, (0, 0)), (store, ()), (store, (False,)), (store, ("a",)), (store, ([],)),
                      (store, (SIXTY,)), (store, (SIXTY_ONE,)), (store, (-1,)), (store, (3,)), (WAY, answer),
                      (store.without_table("r") if len(store.tables) > 1 else None, answer),
                      (Store({"r": 3}, {}), answer), (Store({"s": 2}, {}), answer), {store.domain: answer}):
            self.assertIs(is_lost_answer(SELF, WAY, value), False, value)
        self.assertIs(is_lost_answer(WAY, SELF, (frozen(SELF), (0,))), False)

    def test_stores_that_fit_one_only(self):
        more = asking("r a b", "t b", "asked a")
        self.assertIs(is_lost_answer(more, SINGLE, (frozen(SINGLE), (0,))), False)
        self.assertIs(is_lost_answer(more, SINGLE, (frozen(SINGLE).with_table("t", 2), (0,))), False)
        self.assertIs(is_lost_answer(more, SINGLE, (frozen(SINGLE).with_table("t", 1), (0,))), True)
        self.assertIs(is_lost_answer(SINGLE, more, (frozen(SINGLE), (0,))), False)
        self.assertIs(is_lost_answer(SINGLE, more, (frozen(SINGLE).with_table("t", 2), (0,))), False)
        store, answer = lost_answer(more, SINGLE)
        self.assertIs(is_lost_answer(more, SINGLE, (store, answer)), True)
        self.assertEqual(store.tables["t"], 1)

    def test_without_asked_columns(self):
        one, other = edges("ab", "ba"), edges("ab", "bc", "ca")
        self.assertIs(is_lost_answer(one, other, (frozen(other), ())), True)
        self.assertIs(is_lost_answer(one, other, (frozen(one) + frozen(other), ())), False)
        self.assertEqual(lost_answer(one, other)[1], ())

    def test_very_many_readings(self):
        many = tuple((number,) for number in range(500))
        pairs = tuple(itertools.product(range(40), repeat=2))
        store = Store({"t": 1, "e": 2, "u": 1}, {"t": many, "e": pairs, "u": ((3,), (900,))})
        one = asking("t a", "t b", "t c", "t d", "t e", "e f g", "u f", "asked f")
        other = asking("e a b", "e b c", "e c d", "e d e", "e e f", "e f g", "e g a", "t h", "asked a")
        self.assertIs(is_lost_answer(one, other, (store, (3,))), False)
        self.assertIs(is_lost_answer(one, other, (store, (4,))), True)
        self.assertIs(is_lost_answer(one, other, (store, (900,))), False)
        self.assertIs(is_lost_answer(other, one, (store, (3,))), False)

    def test_eight_clauses(self):
        eight = edges("ab", "bc", "cd", "de", "ef", "fg", "gh", "ha")
        two = edges("ab", "bc", "cd", "da", "ef", "fg", "gh", "he")
        self.assertEqual((count_maps(eight, two), count_maps(two, eight), count_maps(two, two)), (8, 0, 64))
        self.assertIs(is_lost_answer(two, eight, lost_answer(two, eight)), True)
        self.assertIsNone(lost_answer(eight, two))


class LimitsTest(RefusingCase):

    def loose(self, many):
        return Question(tuple(("t", (letter,)) for letter in "abcdefgh"[:many]), ())

    def test_so_many_maps(self):
        self.assertEqual(count_maps(self.loose(5), self.loose(7)), 7 ** 5)
        for one, other in ((5, 8), (8, 8), (8, 4), (6, 6)):
            self.refused(TooMany, count_maps, self.loose(one), self.loose(other), keeps=("limit", 20000))

    def test_just_so_many(self):
        """Each pair of columns from one place on goes 7 * 7 + 1 ways, and the single clause goes 8."""
        one, other = edges("ab", "ac", "de", "df", "gh"), edges("aa", "ab", "ac", "ad", "ae", "af", "ag", "ba")
        self.assertEqual((count_maps(one, other), len(list(each_map(one, other)))), (20000, 20000))

    def test_just_below_and_just_beyond(self):
        below = edges("ab", "cb", "cd", "ae", "cf", "ag", "ah"), edges("aa", "ac", "ad", "ae", "af", "ba", "bb", "bf")
        self.assertEqual((count_maps(*below), len(list(each_map(*below)))), (19954, 19954))
        beyond = edges("ab", "ac", "da", "ec", "af", "ag", "ah"), edges("aa", "ab", "ac", "ad", "af", "ea", "fa", "ga")
        self.assertEqual(len(list(each_map(*beyond))), 20004)
        self.refused(TooMany, count_maps, *beyond, keeps=("limit", 20000))

    def test_no_limit(self):
        one = self.loose(8)
        self.assertEqual(list(itertools.islice(each_map(one, one), 2)),
                         [dict.fromkeys("abcdefgh", "a"), {**dict.fromkeys("abcdefgh", "a"), "h": "b"}])
        self.assertIs(has_all_answers(one, one), True)
        self.assertIs(same_answers(one, self.loose(1)), True)
        self.assertIs(is_map(one, one, dict.fromkeys("abcdefgh", "d")), True)
        self.assertIsNotNone(find_map(one, one))


class RefusedCallsTest(RefusingCase):

    def call(self, function, one, other):
        if function in JUDGES:
            return function(one, other, {})
        found = function(one, other)
        return next(found) if function is each_map else found

    def test_questions(self):
        for function in (*CALLS, *JUDGES):
            for value in VALUES:
                if not isinstance(value, Question):
                    self.refused(InvalidQuestion, self.call, function, value, PATH)
                    self.refused(InvalidQuestion, self.call, function, PATH, value)
                    self.refused(InvalidQuestion, self.call, function, value, value)

    def test_not_comparable(self):
        wide = asking("r a b c", "asked a")
        for one, other in ((PATH, TWICE), (TWICE, PATH), (TWICE, wide), (wide, TWICE), (RING, TWICE)):
            for function in (*CALLS, *JUDGES):
                self.refused(InvalidOperation, self.call, function, one, other)
            for value in VALUES:
                self.refused(InvalidOperation, is_map, one, other, value)
                self.refused(InvalidOperation, is_lost_answer, one, other, value)

    def test_comparable_though_unlike(self):
        self.assertIs(has_all_answers(asking("r a b", "asked a"), asking("u a b c", "asked c")), False)

    def test_generators_wait(self):
        for one, other in ((None, PATH), (PATH, None), (PATH, TWICE)):
            found = each_map(one, other)
            self.assertTrue(inspect.isgenerator(found))
            with self.assertRaises(ValueError):
                next(found)

    def test_a_returned_dict_is_the_callers(self):
        found = find_map(TWICE, TWICE)
        found["a"] = "q"
        for names in each_map(TWICE, TWICE):
            names.clear()
        self.assertEqual(list(each_map(TWICE, TWICE)), all_maps(TWICE, TWICE))

    def test_the_frozen_answer_is_lost(self):
        self.assertIs(is_lost_answer(SELF, WAY, (frozen(WAY), frozen_answer(WAY))), True)


if __name__ == "__main__":
    unittest.main()
