"""Points 0.2 and 0.3: the names, arguments and places of the interface."""

import inspect
import unittest

from joinhouse.base import questions, readings, stores, words
from joinhouse.base.questions import Question
from joinhouse.base.stores import Store
from joinhouse.count import alike, whence
from joinhouse.count.whence import Whence
from joinhouse.fold import cores, maps
from joinhouse.order import layers
from joinhouse.order.layers import Ranked
from joinhouse.shape import knots, reducers, trees
from joinhouse.size import bounds
from joinhouse.width import bags, escapes
from tests.samples import PATH, STORE

FUNCTIONS = (
    (words, "is_integer", 1),
    (words, "is_count", 1),
    (words, "is_name", 1),
    (words, "are_names", 1),
    (words, "is_row", 1),
    (words, "is_naming", 2),
    (words, "coprime", 2),
    (questions, "is_clause", 1),
    (questions, "are_alike", 2),
    (questions, "is_alikeness", 3),
    (questions, "alikeness", 2),
    (stores, "fits", 2),
    (stores, "frozen", 1),
    (stores, "frozen_answer", 1),
    (stores, "spread_store", 2),
    (readings, "each_reading", 2),
    (readings, "is_reading", 3),
    (readings, "count_readings", 2),
    (readings, "answers", 2),
    (readings, "counts", 2),
    (readings, "count_of", 3),
    (readings, "is_answered", 2),
    (readings, "rows_read", 3),
    (maps, "is_map", 3),
    (maps, "find_map", 2),
    (maps, "each_map", 2),
    (maps, "count_maps", 2),
    (maps, "composed_maps", 2),
    (maps, "has_all_answers", 2),
    (maps, "same_answers", 2),
    (maps, "lost_answer", 2),
    (maps, "is_lost_answer", 3),
    (maps, "union_maps", 2),
    (maps, "is_union_maps", 3),
    (maps, "lost_by_union", 2),
    (maps, "is_lost_by_union", 3),
    (maps, "least_union", 1),
    (cores, "is_core", 1),
    (cores, "core_of", 1),
    (cores, "is_core_of", 2),
    (cores, "each_core", 1),
    (cores, "is_folding", 2),
    (cores, "folding_onto", 2),
    (cores, "merging_map", 1),
    (cores, "spare_clauses", 1),
    (cores, "count_turns", 1),
    (alike, "same_counts", 2),
    (alike, "parting_count", 2),
    (alike, "is_parting_count", 3),
    (alike, "count_onto", 2),
    (alike, "are_alike_stores", 2),
    (alike, "store_alikeness", 2),
    (alike, "is_store_alikeness", 3),
    (alike, "question_of", 1),
    (alike, "parting_question", 2),
    (alike, "is_parting_question", 3),
    (alike, "count_injections", 2),
    (whence, "whence_of", 3),
    (whence, "whences", 2),
    (whence, "lost_with", 3),
    (whence, "parting_whence", 2),
    (whence, "is_parting_whence", 3),
    (trees, "join_tree", 1),
    (trees, "is_join_tree", 2),
    (trees, "cutting", 1),
    (trees, "is_cutting", 2),
    (trees, "tree_of", 1),
    (knots, "knot_of", 1),
    (knots, "is_knot", 2),
    (knots, "stuck_by", 2),
    (knots, "stuck_store", 1),
    (knots, "is_stuck", 2),
    (knots, "are_agreeing", 2),
    (reducers, "is_program", 2),
    (reducers, "left_by", 3),
    (reducers, "read_rows", 2),
    (reducers, "full_reducer", 1),
    (reducers, "count_copies", 3),
    (reducers, "is_full_reducer", 2),
    (reducers, "missed_store", 2),
    (bounds, "are_sizes", 2),
    (bounds, "are_keys", 2),
    (bounds, "decided_by", 2),
    (bounds, "reached_by", 2),
    (bounds, "size_bound", 3),
    (bounds, "least_covering", 3),
    (bounds, "greatest_filling", 3),
    (bounds, "is_covering", 3),
    (bounds, "is_filling", 4),
    (bounds, "is_least_covering", 4),
    (bounds, "is_greatest_filling", 4),
    (bounds, "price_of", 3),
    (bounds, "worth_of", 1),
    (bounds, "let_by", 4),
    (bounds, "keeps_keys", 2),
    (bounds, "broken_key", 2),
    (bounds, "worst_store", 5),
    (bounds, "count_worst", 5),
    (layers, "is_layered", 2),
    (layers, "count_layered", 1),
    (layers, "layer_paper", 2),
    (layers, "is_layer_paper", 3),
    (bags, "bag_tree", 1),
    (bags, "width_of", 1),
    (bags, "is_bag_tree", 2),
    (bags, "width_by", 2),
    (bags, "order_width", 2),
    (bags, "tree_by_order", 2),
    (bags, "least_order", 1),
    (bags, "is_least_order", 2),
    (bags, "bag_rows", 3),
    (bags, "count_by_bags", 3),
    (escapes, "lots_behind", 2),
    (escapes, "escape_table", 2),
    (escapes, "is_escape_table", 3),
    (escapes, "flight", 4),
    (escapes, "width_paper", 2),
    (escapes, "is_width_paper", 3),
)

PROPERTIES = {
    Question: ("clauses", "asked", "lines", "columns", "tables", "is_plain", "lots", "spread", "full"),
    Store: ("tables", "lines", "domain"),
    Whence: ("parts", "unknowns", "ways", "needed"),
    Ranked: ("question", "store", "order", "total"),
}

# The methods of each class, with the number of their arguments; None stands for any number.
METHODS = {
    Question: (
        ("index", 1), ("having", 1), ("with_clause", 1), ("without_clause", 1), ("asking", None), ("renamed", 1),
        ("retabled", 1), ("folded", 1), ("__add__", 1), ("__contains__", 1), ("__len__", 0), ("__iter__", 0),
        ("__eq__", 1), ("__str__", 0), ("__init__", 2),
    ),
    Store: (
        ("rows", 1), ("with_row", 2), ("without_row", 2), ("with_table", 2), ("without_table", 1), ("renamed", 1),
        ("folded", 1), ("within", 1), ("__add__", 1), ("__mul__", 1), ("__contains__", 1), ("__len__", 0),
        ("__iter__", 0), ("__eq__", 1), ("__str__", 0), ("__init__", 2),
    ),
    Whence: (
        ("evaluated", 1), ("least", 1), ("greatest", 1), ("without", 1), ("put_in", 3), ("__add__", 1), ("__mul__", 1),
        ("__contains__", 1), ("__len__", 0), ("__iter__", 0), ("__eq__", 1), ("__str__", 0), ("__init__", 1),
    ),
    Ranked: (
        ("reading_at", 1), ("index", 1), ("part", 2), ("below", 1), ("with_head", 1), ("count_heads", 1), ("head_at", 2),
        ("head_index", 1), ("__contains__", 1), ("__eq__", 1), ("__str__", 0), ("__init__", 3),
    ),
}

EXAMPLES = ((Question, PATH), (Store, STORE), (Whence, Whence({})), (Ranked, Ranked(PATH, STORE, ("b", "c", "a"))))


class InterfaceTest(unittest.TestCase):

    def check_arguments(self, call, many):
        """Checks that a call takes so many arguments by position, and nothing else."""
        kinds = [one.kind for one in inspect.signature(call).parameters.values()]
        if many is None:
            self.assertEqual(kinds, [inspect.Parameter.VAR_POSITIONAL])
        else:
            self.assertEqual(kinds, [inspect.Parameter.POSITIONAL_OR_KEYWORD] * many)

    def test_functions(self):
        for module, name, many in FUNCTIONS:
            function = getattr(module, name)
            self.assertEqual((function.__name__, function.__module__), (name, module.__name__))
            self.check_arguments(function, many)

    def test_classes(self):
        self.assertEqual(Question.__module__, "joinhouse.base.questions")
        self.assertEqual(Store.__module__, "joinhouse.base.stores")
        self.assertEqual(Whence.__module__, "joinhouse.count.whence")
        self.assertEqual(Ranked.__module__, "joinhouse.order.layers")

    def test_keywords(self):
        self.assertEqual((layers.layered_order.__name__, layers.layered_order.__module__),
                         ("layered_order", "joinhouse.order.layers"))
        told = inspect.signature(layers.layered_order).parameters
        self.assertEqual([(name, one.kind) for name, one in told.items()],
                         [("question", inspect.Parameter.POSITIONAL_OR_KEYWORD), ("begin", inspect.Parameter.KEYWORD_ONLY)])
        self.assertEqual(told["begin"].default, ())

    def test_properties(self):
        for made in PROPERTIES:
            for name in PROPERTIES[made]:
                self.assertIsInstance(made.__dict__[name], property)

    def test_methods(self):
        for made, example in EXAMPLES:
            for name, many in METHODS[made]:
                self.assertIn(name, made.__dict__)
                self.check_arguments(getattr(example, name), many)
        for made in (Question, Store):
            self.assertIsInstance(made.__dict__["from_lines"], classmethod)
            self.check_arguments(made.from_lines, None)


if __name__ == "__main__":
    unittest.main()
