"""Points 0.2 and 0.4: arguments stay as they are, and so do all objects when a call is refused."""

import unittest

from joinhouse.base.readings import count_of, counts, each_reading, is_reading, rows_read
from joinhouse.count.alike import (
    count_injections,
    count_onto,
    is_parting_count,
    is_parting_question,
    is_store_alikeness,
    parting_count,
    parting_question,
    store_alikeness,
)
from joinhouse.fold.cores import core_of, each_core, folding_onto, is_core_of, is_folding, merging_map
from joinhouse.fold.maps import (
    composed_maps,
    each_map,
    is_lost_answer,
    is_lost_by_union,
    is_map,
    is_union_maps,
    lost_answer,
    union_maps,
)
from tests.brute import asking, edges, table
from tests.samples import PATH, RING, STORE, TWICE, VALUES, RefusingCase

SINGLE = asking("r a b", "asked a")
LEFT = table("e", (1, 2), (2, 1), (3, 4), (4, 3))
RIGHT = table("e", (1, 2), (2, 3), (3, 4), (4, 1))
KEPT = (PATH, RING, TWICE, SINGLE, STORE, LEFT, RIGHT)


class UnchangedTest(RefusingCase):

    def setUp(self):
        self.lines = [(one.lines, one.tables, str(one)) for one in KEPT]

    def tearDown(self):
        self.assertEqual([(one.lines, one.tables, str(one)) for one in KEPT], self.lines)

    def test_dicts_that_are_passed(self):
        names = {"c": "a", "b": "b", "a": "a"}
        values = {4: 1, 3: 2, 2: 4, 1: 3}
        self.assertTrue(is_map(TWICE, TWICE, names) and is_folding(TWICE, names))
        self.assertTrue(is_union_maps((TWICE,), (TWICE,), ((0, names),)))
        self.assertEqual(composed_maps(names, names), {"a": "a", "b": "b", "c": "a"})
        self.assertFalse(is_store_alikeness(LEFT, RIGHT, values))
        self.assertTrue(is_store_alikeness(LEFT, LEFT, values))
        self.assertEqual((list(names.items()), list(values.items())),
                         ([("c", "a"), ("b", "b"), ("a", "a")], [(4, 1), (3, 2), (2, 4), (1, 3)]))

    def test_calls_that_are_done(self):
        for call in (
            lambda: list(each_reading(PATH, STORE)), lambda: counts(TWICE, STORE),
            lambda: list(each_map(TWICE, SINGLE)),
            lambda: lost_answer(asking("r x x", "asked x"), SINGLE), lambda: union_maps((TWICE, SINGLE), (SINGLE,)),
            lambda: core_of(TWICE), lambda: list(each_core(TWICE)), lambda: folding_onto(TWICE, core_of(TWICE)),
            lambda: merging_map(TWICE), lambda: parting_count(TWICE, SINGLE), lambda: count_onto(TWICE, SINGLE),
            lambda: store_alikeness(LEFT, LEFT), lambda: parting_question(LEFT, RIGHT),
            lambda: count_injections(LEFT, RIGHT),
        ):
            first = call()
            self.assertEqual(call(), first)

    def test_calls_that_are_refused(self):
        for call in (
            rows_read, is_reading, count_of, is_map, is_lost_answer, is_parting_count, is_union_maps, is_lost_by_union,
            is_parting_question, is_store_alikeness, composed_maps, is_core_of, folding_onto,
        ):
            many = 2 if call in (composed_maps, is_core_of, folding_onto) else 3
            for one, other in ((PATH, None), (None, STORE), (STORE, PATH), (RING, STORE.without_table("t"))):
                for value in VALUES[:20]:
                    with self.subTest(call=call.__name__):
                        try:
                            call(*(one, other, value)[:many])
                        except ValueError:
                            pass

    def test_two_generators_at_once(self):
        pairs = list(zip(each_reading(PATH, STORE), each_reading(TWICE, STORE)))
        self.assertEqual([one for one, _ in pairs], list(each_reading(PATH, STORE)))
        self.assertEqual([other for _, other in pairs], list(each_reading(TWICE, STORE)))
        ring = edges("ab", "bc", "cd", "da")
        for names, other in zip(each_map(ring, ring), each_map(ring, ring)):
            self.assertEqual(names, other)


if __name__ == "__main__":
    unittest.main()
