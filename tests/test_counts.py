"""Points 0.16, 7.1, 7.2 and the functions of joinhouse.count.alike on questions."""

import itertools
import random
import unittest

from joinhouse.base.questions import Question, are_alike
from joinhouse.base.readings import count_of
from joinhouse.base.stores import Store, fits, frozen, frozen_answer
from joinhouse.count import alike
from joinhouse.count.alike import count_onto, is_parting_count, parting_count, same_counts
from joinhouse.errors import InvalidOperation, InvalidQuestion, TooMany
from tests.brute import WIDTHS, all_answers, all_maps, asking, edges, some_question, some_store
from tests.samples import PATH, RING, SIXTY, STORE, TWICE, VALUES, RefusingCase

SINGLE = asking("r a b", "asked a")
CALLS = (same_counts, parting_count, count_onto)


def some_pairs(chance, many):
    """Pairs of comparable questions, some of them alike."""
    for _ in range(many):
        asked = chance.choice((0, 0, 1, 2))
        one = some_question(chance, many=asked, tables="rt", most=4)
        yield one, some_question(chance, many=asked, tables="rt", most=4)
        yield one, one.renamed(dict(zip(one.columns, chance.sample("abcxyz", len(one.columns)))))
        left = [clause for clause in one.clauses if len(one) > 1 and one.without_clause(clause).asked == one.asked]
        if left:
            yield one, one.without_clause(chance.choice(left))


def onto_by_maps(one, other):
    """The number of maps by which each clause comes from some clause, by a search through all dicts."""
    return len([names for names in all_maps(one, other) if len({
        (table, tuple(names[column] for column in columns)) for table, columns in one.clauses}) == len(other)])


def onto_by_sum(one, other):
    """The sum of point 7.2."""
    whole = frozen(other)
    pairs = list(whole)
    total = 0
    for many in range(len(pairs) + 1):
        for chosen in itertools.combinations(pairs, many):
            rows = {table: tuple(row for name, row in chosen if name == table) for table in whole.tables}
            store = Store({**one.tables, **whole.tables}, rows)
            count = count_of(one, store, frozen_answer(other))
            total += count if (len(pairs) - many) % 2 == 0 else -count
    return total


class SameCountsTest(RefusingCase):

    def test_alike_or_parted(self):
        seen = [0, 0]
        for one, other in some_pairs(random.Random(1), 60):
            same = are_alike(one, other)
            self.assertIs(same_counts(one, other), same)
            self.assertIs(same_counts(other, one), same)
            pair = parting_count(one, other)
            self.assertIs(pair is None, same)
            if pair is not None:
                self.assertEqual((pair.__class__, len(pair)), (tuple, 2))
                store, answer = pair
                self.assertTrue(fits(store, one) and fits(store, other))
                self.assertNotEqual(all_answers(one, store).get(answer, 0), all_answers(other, store).get(answer, 0))
                self.assertIs(is_parting_count(one, other, pair), True)
                self.assertIs(is_parting_count(other, one, pair), True)
            seen[same] += 1
        self.assertGreater(min(seen), 30)

    def test_alike_ones_count_alike(self):
        chance = random.Random(2)
        widths = Store({name: WIDTHS[name] for name in "rt"}, {})
        for one, other in some_pairs(chance, 40):
            for store in (some_store(chance, tables="rt", values=3), frozen(one) + widths, frozen(other) + widths):
                missed, right = all_answers(one, store), all_answers(other, store)
                if same_counts(one, other):
                    self.assertEqual(missed, right)
                for answer in {*missed, *right, (5,) * len(one.asked)}:
                    self.assertIs(is_parting_count(one, other, (store, answer)),
                                  missed.get(answer, 0) != right.get(answer, 0))

    def test_a_parting_count_of_some_is_none_of_others(self):
        pair = parting_count(TWICE, SINGLE)
        self.assertIs(is_parting_count(TWICE, SINGLE, pair), True)
        self.assertIs(is_parting_count(TWICE, TWICE, pair), False)
        self.assertIs(is_parting_count(SINGLE, SINGLE.renamed({"a": "b", "b": "a"}), pair), False)
        self.assertIs(is_parting_count(asking("s a b", "asked a"), asking("s b a", "asked b"), pair), False)

    def test_questions_that_are_hard_to_part(self):
        five = edges("ab", "ac", "ad", "bc", "bd", "cd", "ce", "de")
        other = edges("ab", "ac", "ad", "bc", "bd", "cd", "ce", "ed")
        eight = edges("ab", "bc", "cd", "de", "ef", "fg", "gh", "ha")
        two = edges("ab", "bc", "cd", "da", "ef", "fg", "gh", "he")
        line = edges("ab", "bc", "cd", "de", "ef", "fg", "gh")
        star = edges("ab", "ac", "ad", "ae", "af", "ag", "ah")
        loose = [Question(tuple(("e", (letter, letter)) for letter in "abcdefgh"[:many]), ()) for many in (7, 8)]
        for one, second in itertools.permutations((five, other, eight, two, line, star, *loose), 2):
            pair = parting_count(one, second)
            self.assertIs(is_parting_count(one, second, pair), True)
            self.assertIs(same_counts(one, second), False)

    def test_values_of_every_form(self):
        store, answer = frozen(TWICE), (0,)
        self.assertIs(is_parting_count(TWICE, SINGLE, (store, answer)), True)
        self.assertIs(is_parting_count(TWICE, SINGLE, (store + STORE, answer)), True)
        for value in (*VALUES, [store, answer], (store, [0]), (store,), (store, answer, 0), (answer, store),
                      (store, ()), (store, (0, 0)), (store, (False,)), (store, ("a",)), (store, ([],)), (store, None),
                      (store, (SIXTY,)), (store, (10 ** 60,)), (store, (-1,)), (store, (1,)), (TWICE, answer),
                      (Store({"s": 2}, {"s": ((0, 1),)}), answer), (Store({"r": 3}, {}), answer), {0: store}):
            self.assertIs(is_parting_count(TWICE, SINGLE, value), False, value)

    def test_stores_that_fit_one_only(self):
        more = asking("r a b", "t b", "asked a")
        store = Store.from_lines("row r 0 1")
        self.assertIs(is_parting_count(SINGLE, more, (store, (0,))), False)
        self.assertIs(is_parting_count(SINGLE, more, (store.with_table("t", 1), (0,))), True)
        self.assertIs(is_parting_count(SINGLE, more, (store.with_table("t", 2), (0,))), False)
        self.assertIs(is_parting_count(more, SINGLE, (store, (0,))), False)
        self.assertIs(is_parting_count(more, SINGLE, (store.with_table("t", 2), (0,))), False)
        self.assertIs(is_parting_count(more, SINGLE, (store.with_table("t", 1), (0,))), True)
        self.assertEqual(parting_count(SINGLE, more)[0].tables, {"r": 2, "t": 1})


class CountOntoTest(RefusingCase):

    def test_maps_and_sums(self):
        for one, other in some_pairs(random.Random(3), 40):
            many = count_onto(one, other)
            self.assertEqual(many, onto_by_maps(one, other))
            self.assertEqual(many, onto_by_sum(one, other))
            self.assertIs(many >= 1 and count_onto(other, one) >= 1, are_alike(one, other))

    def test_tables_that_one_only_has(self):
        more = asking("r a b", "t b", "asked a")
        self.assertEqual((count_onto(SINGLE, more), count_onto(more, SINGLE)), (0, 0))
        self.assertEqual((onto_by_sum(SINGLE, more), onto_by_sum(more, SINGLE)), (0, 0))

    def test_limit(self):
        loose = [Question(tuple(("t", (letter,)) for letter in "abcdefgh"[:many]), ()) for many in range(1, 9)]
        self.assertEqual(count_onto(loose[4], loose[6]), 0)
        self.assertEqual(count_onto(loose[7], loose[1]), 2 ** 8 - 2)
        self.assertEqual(count_onto(loose[4], loose[4]), 120)
        for one, other in ((4, 7), (7, 7), (5, 5)):
            self.refused(TooMany, count_onto, loose[one], loose[other], keeps=("limit", 20000))
        beyond = edges("ab", "ac", "da", "ec", "af", "ag", "ah"), edges("aa", "ab", "ac", "ad", "af", "ea", "fa", "ga")
        self.refused(TooMany, count_onto, *beyond, keeps=("limit", 20000))
        below = edges("ab", "cb", "cd", "ae", "cf", "ag", "ah"), edges("aa", "ac", "ad", "ae", "af", "ba", "bb", "bf")
        self.assertEqual(count_onto(*below), 0)
        just = edges("ab", "ac", "de", "df", "gh"), edges("aa", "ab", "ac", "ad", "ae", "af", "ag", "ba")
        self.assertEqual(count_onto(*just), 0)


class LimitsTest(RefusingCase):

    def store(self, many):
        return Store({"t": 1, "u": 1}, {"t": tuple((number,) for number in range(many)), "u": ((0,),)})

    def test_constants(self):
        self.assertEqual((alike.MAX_VALUES, alike.MAX_FEW), (6, 8))

    def test_readings_in_a_judged_store(self):
        two, three = asking("t a", "t b"), asking("t a", "t b", "t c")
        self.assertIs(is_parting_count(two, three, (self.store(27), ())), True)
        for one, other in ((two, three), (three, two), (three, three)):
            for answer in ((), (1,), (None,), ([], {})):
                self.refused(TooMany, is_parting_count, one, other, (self.store(28), answer), keeps=("limit", 20000))
            for value in (self.store(28), (self.store(28),), (self.store(28), ()) * 2, [self.store(28), ()],
                          (self.store(28), []), (self.store(28), None), (Store({"t": 2}, {}), ())):
                self.assertIs(is_parting_count(one, other, value), False)
        self.assertIs(is_parting_count(two, two, (self.store(141), ())), False)
        self.refused(TooMany, is_parting_count, two, two, (self.store(142), ()), keeps=("limit", 20000))
        more = asking("t a", "t b", "v a")
        self.assertIs(is_parting_count(two, more, (self.store(150), ())), False)

    def test_just_so_many(self):
        three = asking("t a", "u b", "v c", "asked a")
        other = asking("t a", "u a", "asked a")

        def store(*sizes):
            return Store({"t": 1, "u": 1, "v": 1},
                         {name: tuple((number,) for number in range(many)) for name, many in zip("tuv", sizes)})

        self.assertIs(is_parting_count(three, other, (store(200, 100, 1), (7,))), True)
        self.assertIs(is_parting_count(other, three, (store(200, 100, 1), (200,))), False)
        self.refused(TooMany, is_parting_count, three, other, (store(3, 59, 113), (7,)), keeps=("limit", 20000))
        self.refused(TooMany, is_parting_count, other, three, (store(3, 59, 113), (7,)), keeps=("limit", 20000))


class RefusedCallsTest(RefusingCase):

    def test_questions(self):
        for value in VALUES:
            if not isinstance(value, Question):
                for function in CALLS:
                    self.refused(InvalidQuestion, function, value, PATH)
                    self.refused(InvalidQuestion, function, PATH, value)
                    self.refused(InvalidQuestion, function, value, value)
                self.refused(InvalidQuestion, is_parting_count, value, PATH, None)
                self.refused(InvalidQuestion, is_parting_count, PATH, value, (STORE, (1, 2)))

    def test_not_comparable(self):
        for one, other in ((PATH, TWICE), (TWICE, asking("r a b c", "asked a")), (RING, SINGLE)):
            for function in CALLS:
                self.refused(InvalidOperation, function, one, other)
                self.refused(InvalidOperation, function, other, one)
            for value in VALUES:
                self.refused(InvalidOperation, is_parting_count, one, other, value)


if __name__ == "__main__":
    unittest.main()
