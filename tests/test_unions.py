"""Point 5.2 and the functions of joinhouse.fold.maps on tuples of questions."""

import random
import unittest

from joinhouse.base.questions import Question
from joinhouse.base.readings import answers
from joinhouse.base.stores import Store, fits, frozen
from joinhouse.errors import InvalidOperation, InvalidQuestion, TooMany
from joinhouse.fold.maps import (
    is_lost_by_union,
    is_union_maps,
    least_union,
    lost_by_union,
    union_maps,
)
from tests.brute import all_answers, all_maps, asking, edges, some_question
from tests.samples import PATH, RING, TWICE, VALUES, RefusingCase

WAY = asking("r a b", "r b c", "r c d", "asked a")
SELF = asking("r x x", "asked x")
BACK = asking("r a b", "r b a", "asked a")
MARKED = asking("r a b", "t b", "asked a")


def some_unions(chance, many):
    """Two tuples of comparable questions."""
    for _ in range(many):
        asked = chance.choice((0, 1, 1))
        yield tuple(
            tuple(some_question(chance, many=asked, most=most, tables="rt") for _ in range(chance.randint(1, 3)))
            for most in (2, 4)
        )


def lost_ones(ones, others):
    """The indices of those of `others` that no map leads to."""
    return [at for at, other in enumerate(others) if not any(all_maps(one, other) for one in ones)]


class UnionsTest(RefusingCase):

    def test_either_maps_or_a_lost_answer(self):
        seen = [0, 0]
        for ones, others in some_unions(random.Random(1), 150):
            pairs, lost = union_maps(ones, others), lost_by_union(ones, others)
            missed = lost_ones(ones, others)
            self.assertIs(pairs is None, bool(missed))
            self.assertIs(lost is None, not missed)
            if missed:
                self.assertEqual((lost.__class__, len(lost)), (tuple, 3))
                self.assertIn(lost[0], missed)
                self.assertIs(is_lost_by_union(ones, others, lost), True)
                for question in ones + others:
                    self.assertTrue(fits(lost[1], question))
                self.assertIn(lost[2], all_answers(others[lost[0]], lost[1]))
                for one in ones:
                    self.assertNotIn(lost[2], all_answers(one, lost[1]))
                self.assertIs(is_union_maps(ones, others, lost), False)
            else:
                self.assertEqual((pairs.__class__, len(pairs)), (tuple, len(others)))
                for (at, names), other in zip(pairs, others):
                    self.assertIn(names, all_maps(ones[at], other))
                    self.assertEqual(list(names), sorted(names))
                self.assertIs(is_union_maps(ones, others, pairs), True)
                self.assertIs(is_lost_by_union(ones, others, pairs), False)
            seen[bool(missed)] += 1
        self.assertGreater(min(seen), 30)

    def test_every_index_and_map_is_judged(self):
        for ones, others in some_unions(random.Random(2), 40):
            for at, one in enumerate(ones):
                for other in others:
                    right = all_maps(one, other)
                    for names in right:
                        self.assertIs(is_union_maps(ones, (other,), ((at, names),)), True)
                    for against in range(len(ones)):
                        for names in right[:2]:
                            self.assertIs(is_union_maps(ones, (other,), ((against, names),)),
                                          names in all_maps(ones[against], other))

    def test_changed_union_maps(self):
        ones, others = (SELF, WAY), (SELF, BACK, SELF)
        pairs = union_maps(ones, others)
        self.assertIs(is_union_maps(ones, others, pairs), True)
        good = (1, {"a": "x", "b": "x", "c": "x", "d": "x"})
        self.assertIs(is_union_maps(ones, others, (good, pairs[1], (0, {"x": "x"}))), True)
        for wrong in (*VALUES, list(good), (good[0],), (*good, 1), (True, good[1]), (2, good[1]), (-1, good[1]),
                      (0, good[1]), (1, {"x": "x"}), (1, {**good[1], "d": "a"}), (1, {**good[1], "e": "x"}),
                      (1, None), (None, good[1]), (False, {"x": "x"}), (1, tuple(good[1].items())), ("1", good[1]),
                      (1, {key: good[1][key] for key in "abc"}), (10 ** 99, good[1]), good[1]):
            self.assertIs(is_union_maps(ones, others, (good, pairs[1], wrong)), False, wrong)
            self.assertIs(is_union_maps(ones, others, (wrong, pairs[1], good)), False, wrong)
        for value in (*VALUES, list(pairs), pairs[:2], (*pairs, good), (pairs[1], pairs[0], pairs[2]), good, (good,)):
            self.assertIs(is_union_maps(ones, others, value), False, value)

    def test_changed_lost_answers(self):
        ones, others = (SELF, BACK), (BACK, MARKED, SELF, WAY)
        store = frozen(MARKED)
        for right in (lost_by_union(ones, others), (1, store, (0,)), (3, frozen(WAY).with_table("t", 1), (0,))):
            self.assertIs(is_lost_by_union(ones, others, right), True)
        right = (1, store, (0,))
        for value in (
            *VALUES, list(right), right[:2], (*right, 0), (True, store, (0,)), (0, store, (0,)), (2, store, (0,)),
            (4, store, (0,)), (-1, store, (0,)), (None, store, (0,)), ("1", store, (0,)), (10 ** 99, store, (0,)),
            (1, None, (0,)), (1, MARKED, (0,)), (1, store, (1,)), (1, store, 0), (1, store, [0]), (1, store, (False,)),
            (1, store, ()), (1, store, (0, 0)), (1, store, None), (1, frozen(WAY), (0,)), (3, frozen(WAY), (0,)),
            (1, Store({"r": 2, "t": 2}, {"r": ((0, 1),)}), (0,)), (1, Store({"r": 3, "t": 1}, {"t": ((0,),)}), (0,)),
            (1, store.with_row("r", (0, 0)), (0,)), (1, store.with_row("r", (1, 0)), (0,)), (store, 1, (0,)),
        ):
            self.assertIs(is_lost_by_union(ones, others, value), False, value)
        self.assertIs(is_lost_by_union(ones, others, (1, store.with_row("r", (1, 1)), (0,))), True)

    def test_a_store_that_lacks_a_table_of_one_question(self):
        only = asking("u a", "asked a")
        value = (0, frozen(WAY), (0,))
        self.assertIs(is_lost_by_union((SELF,), (WAY,), value), True)
        self.assertIs(is_lost_by_union((SELF, only), (WAY,), value), False)
        self.assertIs(is_lost_by_union((SELF,), (WAY, only), value), False)
        self.assertIs(is_lost_by_union((SELF, only), (WAY,), (0, frozen(WAY).with_table("u", 1), (0,))), True)
        self.assertEqual(lost_by_union((SELF, only), (WAY,))[1].tables, {"r": 2, "u": 1})

    def test_an_answer_that_two_have_in_turn(self):
        """Each of two questions has some answers only, but each answer is one of some of both."""
        even, odd = asking("r a b", "t b", "asked a"), asking("r a b", "u b", "asked a")
        both = asking("r a b", "t b", "u b", "asked a")
        self.assertEqual([pair[0] for pair in union_maps((even, odd), (odd, even))], [1, 0])
        self.assertIsNotNone(union_maps((even, odd), (both, both)))
        self.assertEqual(lost_by_union((even, both), (even, odd))[0], 1)

    def test_very_many_readings(self):
        many = tuple((number,) for number in range(2000))
        store = Store({"t": 1, "u": 1}, {"t": many, "u": ((7,), (9999,))})
        one = asking("t a", "t b", "t c", "u a", "asked a")
        other = asking("t b", "t c", "t d", "t e", "u a", "asked a")
        self.assertIs(is_lost_by_union((one, one), (other,), (0, store, (9999,))), True)
        self.assertIs(is_lost_by_union((one, one), (other,), (0, store, (7,))), False)
        self.assertIs(is_lost_by_union((one, one), (other,), (0, store, (8,))), False)


class LeastUnionTest(RefusingCase):

    def check(self, ones):
        left = least_union(ones)
        self.assertEqual(left.__class__, tuple)
        self.assertEqual(list(left), sorted(set(left)))
        kept = tuple(ones[at] for at in left)
        self.assertIsNotNone(union_maps(kept, ones))
        for at in range(len(kept)):
            others = kept[:at] + kept[at + 1:]
            if others:
                self.assertIsNone(union_maps(others, ones))
            # Of questions with the same answers the first one stays.
            for one in ones[:left[at]]:
                self.assertFalse(all_maps(one, kept[at]) and all_maps(kept[at], one))
        return left

    def test_by_chance(self):
        found = {len(self.check(ones + others)) for ones, others in some_unions(random.Random(3), 80)}
        self.assertTrue({1, 2} <= found)

    def test_equals(self):
        single = asking("r x y", "asked x")
        self.assertEqual(self.check((TWICE, single)), (0,))
        self.assertEqual(self.check((single, TWICE)), (0,))
        self.assertEqual(self.check((SELF, single, TWICE, WAY)), (1,))
        self.assertEqual(self.check((SELF, SELF, SELF)), (0,))
        self.assertEqual(self.check((SELF, BACK, SELF.renamed({"x": "y"}))), (1,))
        self.assertEqual(self.check((MARKED, asking("u a", "asked a"), WAY, MARKED)), (0, 1, 2))
        self.assertEqual(self.check((PATH,)), (0,))
        self.assertEqual(self.check((SELF,) * 8), (0,))

    def test_same_answers_together(self):
        for ones, _ in some_unions(random.Random(4), 40):
            left = [ones[at] for at in least_union(ones)]
            for store in (frozen(one) + Store({"r": 2, "t": 1}, {}) for one in ones):
                self.assertEqual({answer for one in ones for answer in answers(one, store)},
                                 {answer for one in left for answer in answers(one, store)})


class RefusedCallsTest(RefusingCase):

    def check_refused(self, error, ones, others, **more):
        """Checks that all functions refuse two tuples."""
        self.refused(error, union_maps, ones, others, **more)
        self.refused(error, lost_by_union, ones, others, **more)
        for value in (None, (), ((0, {}),), (0, frozen(WAY), (0,))):
            self.refused(error, is_union_maps, ones, others, value, **more)
            self.refused(error, is_lost_by_union, ones, others, value, **more)

    def test_numbers_of_questions(self):
        for many in (1, 2, 8):
            self.assertEqual(len(union_maps((SELF,) * many, (SELF,) * many)), many)
            self.assertIsNone(lost_by_union((SELF,) * many, (SELF,)))
            self.assertEqual(least_union((SELF,) * many), (0,))
        for many in (0, 9):
            self.check_refused(InvalidQuestion, (SELF,) * many, (SELF,))
            self.check_refused(InvalidQuestion, (SELF,), (SELF,) * many)
            self.refused(InvalidQuestion, least_union, (SELF,) * many)

    def test_no_tuples_of_questions(self):
        for value in (*VALUES, [SELF], (SELF, None), (None, SELF), (SELF, [SELF]), SELF, (SELF, (SELF,)), {0: SELF}):
            self.check_refused(InvalidQuestion, value, (SELF,))
            self.check_refused(InvalidQuestion, (SELF,), value)
            self.check_refused(InvalidQuestion, value, value)
            self.refused(InvalidQuestion, least_union, value)

    def test_not_comparable(self):
        wide = asking("r a b c", "asked a")
        for ones, others in (
            ((SELF,), (PATH,)), ((SELF, PATH), (SELF,)), ((SELF,), (SELF, wide)), ((wide, SELF), (wide,)),
            ((RING,), (SELF,)), ((asking("u a", "asked a"), SELF), (asking("u a b", "asked a"),)),
        ):
            self.check_refused(InvalidOperation, ones, others)
            self.refused(InvalidOperation, least_union, ones + others)

    def test_tables(self):
        def named(letters):
            return Question(tuple((letter, ("a",)) for letter in letters), ("a",))

        eight, more, last = named("abcdefgh"), named("ijklmnop"), named("q")
        self.assertEqual(len(lost_by_union((eight,), (more,))[1].tables), 16)
        self.assertEqual(least_union((eight, more)), (0, 1))
        self.check_refused(TooMany, (eight, more), (last,), keeps=("limit", 16))
        self.check_refused(TooMany, (eight,), (more, last), keeps=("limit", 16))
        self.refused(TooMany, least_union, (eight, more, last), keeps=("limit", 16))
        wide = asking("r a b", "asked a b")
        self.check_refused(InvalidOperation, (eight, more, wide), (last,))
        self.check_refused(InvalidOperation, (eight, more), (last, wide))
        self.check_refused(InvalidQuestion, (eight, more, wide), [last])
        self.check_refused(InvalidQuestion, (eight, more, None), (last, wide))
        self.refused(InvalidOperation, least_union, (eight, more, last, wide))
        self.refused(InvalidQuestion, least_union, (eight, more, last, wide, None))

    def test_nothing_is_shared(self):
        pairs = union_maps((SELF,), (SELF,))
        pairs[0][1]["x"] = "q"
        self.assertEqual(union_maps((SELF,), (SELF,)), ((0, {"x": "x"}),))

    def test_edges_without_asked_columns(self):
        two, three = edges("ab", "ba"), edges("ab", "bc", "ca")
        six = edges("ab", "bc", "cd", "de", "ef", "fa")
        self.assertEqual(least_union((two, three, six)), (2,))
        self.assertEqual(least_union((two, three)), (0, 1))
        self.assertEqual([at for at, _ in union_maps((two, three, six), (three, two))], [1, 0])


if __name__ == "__main__":
    unittest.main()
