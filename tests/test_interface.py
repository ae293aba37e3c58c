"""Points 0.2 and 0.3: the names, arguments and places of the interface."""

import inspect
import unittest

from joinhouse.base import questions, readings, stores, words
from joinhouse.base.questions import Question
from joinhouse.base.stores import Store
from joinhouse.change import forests
from joinhouse.change.forests import Tally, forest_of
from joinhouse.count import alike, whence
from joinhouse.count.whence import Whence
from joinhouse.fold import cores, maps
from joinhouse.order import layers
from joinhouse.order.layers import Ranked
from joinhouse.shape import knots, reducers, trees
from joinhouse.size import bounds
from joinhouse.split import chase, rules
from joinhouse.split.rules import Scheme
from joinhouse.strike import lines
from joinhouse.text import shell, texts
from joinhouse.text.shell import Shell
from joinhouse.text.texts import write_question, write_store
from joinhouse.use import bench
from joinhouse.use.bench import Bench
from joinhouse.width import bags, escapes
from joinhouse.work import ways
from tests.samples import PATH, STORE

FUNCTIONS = (
    (words, "is_integer", 1),
    (words, "is_count", 1),
    (words, "is_name", 1),
    (words, "are_names", 1),
    (words, "is_row", 1),
    (words, "is_naming", 2),
    (words, "coprime", 2),
    (questions, "is_clause", 1),
    (questions, "are_alike", 2),
    (questions, "is_alikeness", 3),
    (questions, "alikeness", 2),
    (stores, "fits", 2),
    (stores, "frozen", 1),
    (stores, "frozen_answer", 1),
    (stores, "spread_store", 2),
    (readings, "each_reading", 2),
    (readings, "is_reading", 3),
    (readings, "count_readings", 2),
    (readings, "answers", 2),
    (readings, "counts", 2),
    (readings, "count_of", 3),
    (readings, "is_answered", 2),
    (readings, "rows_read", 3),
    (maps, "is_map", 3),
    (maps, "find_map", 2),
    (maps, "each_map", 2),
    (maps, "count_maps", 2),
    (maps, "composed_maps", 2),
    (maps, "has_all_answers", 2),
    (maps, "same_answers", 2),
    (maps, "lost_answer", 2),
    (maps, "is_lost_answer", 3),
    (maps, "union_maps", 2),
    (maps, "is_union_maps", 3),
    (maps, "lost_by_union", 2),
    (maps, "is_lost_by_union", 3),
    (maps, "least_union", 1),
    (cores, "is_core", 1),
    (cores, "core_of", 1),
    (cores, "is_core_of", 2),
    (cores, "each_core", 1),
    (cores, "is_folding", 2),
    (cores, "folding_onto", 2),
    (cores, "merging_map", 1),
    (cores, "spare_clauses", 1),
    (cores, "count_turns", 1),
    (alike, "same_counts", 2),
    (alike, "parting_count", 2),
    (alike, "is_parting_count", 3),
    (alike, "count_onto", 2),
    (alike, "are_alike_stores", 2),
    (alike, "store_alikeness", 2),
    (alike, "is_store_alikeness", 3),
    (alike, "question_of", 1),
    (alike, "parting_question", 2),
    (alike, "is_parting_question", 3),
    (alike, "count_injections", 2),
    (whence, "whence_of", 3),
    (whence, "whences", 2),
    (whence, "lost_with", 3),
    (whence, "parting_whence", 2),
    (whence, "is_parting_whence", 3),
    (trees, "join_tree", 1),
    (trees, "is_join_tree", 2),
    (trees, "cutting", 1),
    (trees, "is_cutting", 2),
    (trees, "tree_of", 1),
    (knots, "knot_of", 1),
    (knots, "is_knot", 2),
    (knots, "stuck_by", 2),
    (knots, "stuck_store", 1),
    (knots, "is_stuck", 2),
    (knots, "are_agreeing", 2),
    (reducers, "is_program", 2),
    (reducers, "left_by", 3),
    (reducers, "read_rows", 2),
    (reducers, "full_reducer", 1),
    (reducers, "count_copies", 3),
    (reducers, "is_full_reducer", 2),
    (reducers, "missed_store", 2),
    (bounds, "are_sizes", 2),
    (bounds, "are_keys", 2),
    (bounds, "decided_by", 2),
    (bounds, "reached_by", 2),
    (bounds, "size_bound", 3),
    (bounds, "least_covering", 3),
    (bounds, "greatest_filling", 3),
    (bounds, "is_covering", 3),
    (bounds, "is_filling", 4),
    (bounds, "is_least_covering", 4),
    (bounds, "is_greatest_filling", 4),
    (bounds, "price_of", 3),
    (bounds, "worth_of", 1),
    (bounds, "let_by", 4),
    (bounds, "keeps_keys", 2),
    (bounds, "broken_key", 2),
    (bounds, "worst_store", 5),
    (bounds, "count_worst", 5),
    (layers, "is_layered", 2),
    (layers, "count_layered", 1),
    (layers, "layer_paper", 2),
    (layers, "is_layer_paper", 3),
    (bags, "bag_tree", 1),
    (bags, "width_of", 1),
    (bags, "is_bag_tree", 2),
    (bags, "width_by", 2),
    (bags, "order_width", 2),
    (bags, "tree_by_order", 2),
    (bags, "least_order", 1),
    (bags, "is_least_order", 2),
    (bags, "bag_rows", 3),
    (bags, "count_by_bags", 3),
    (escapes, "lots_behind", 2),
    (escapes, "escape_table", 2),
    (escapes, "is_escape_table", 3),
    (escapes, "flight", 4),
    (escapes, "width_paper", 2),
    (escapes, "is_width_paper", 3),
    (lines, "line_of", 1),
    (lines, "trio_of", 1),
    (lines, "is_line", 2),
    (lines, "is_trio", 2),
    (lines, "forced_numbers", 2),
    (rules, "keeps", 2),
    (rules, "closure", 2),
    (rules, "decides", 3),
    (rules, "least_keys", 1),
    (rules, "follows", 2),
    (rules, "derivation", 2),
    (rules, "is_derivation", 3),
    (rules, "parting_pair", 2),
    (rules, "is_parting_pair", 3),
    (chase, "joined_rows", 3),
    (chase, "split_question", 2),
    (chase, "split_store", 3),
    (chase, "chased", 2),
    (chase, "is_lossless", 2),
    (chase, "chase_run", 2),
    (chase, "is_chase_run", 3),
    (chase, "lost_row", 2),
    (chase, "is_lost_row", 3),
    (chase, "is_normal_part", 2),
    (chase, "normal_split", 1),
    (chase, "is_normal_split", 2),
    (chase, "are_told_apart", 2),
    (forests, "crossing_of", 1),
    (forests, "is_crossing", 2),
    (forests, "forest_of", 1),
    (forests, "is_forest", 2),
    (forests, "open_forest", 1),
    (forests, "is_open", 2),
    (forests, "bar_of", 1),
    (forests, "is_bar", 2),
    (forests, "way_to", 2),
    (ways, "applies", 3),
    (ways, "count_by", 3),
    (ways, "counts_by_all", 2),
    (ways, "count_all", 2),
    (ways, "tree_counts", 3),
    (texts, "write_question", 1),
    (texts, "read_question", 1),
    (texts, "write_store", 1),
    (texts, "read_store", 1),
    (texts, "write_map", 1),
    (texts, "read_map", 1),
    (texts, "write_links", 1),
    (texts, "read_links", 1),
    (texts, "write_knot", 1),
    (texts, "read_knot", 1),
)

# Functions with keywords, with the number of the arguments ahead of them, and the defaults of the keywords.
KEYED = (
    (layers, "layered_order", 1, {"begin": ()}),
    (lines, "cheapest_strike", 2, {"prices": None, "kept": ()}),
    (lines, "greatest_load", 2, {"prices": None, "kept": ()}),
    (lines, "is_strike", 3, {"prices": None, "kept": ()}),
    (lines, "is_load", 3, {"prices": None, "kept": ()}),
    (lines, "strike_paper", 2, {"prices": None, "kept": ()}),
    (lines, "is_strike_paper", 3, {"prices": None, "kept": ()}),
)

CONSTANTS = (
    (words, "MAX_LETTERS", 8), (words, "MAX_FIGURES", 60), (questions, "MAX_CLAUSES", 8), (questions, "MAX_COLUMNS", 8),
    (stores, "MAX_TABLES", 16), (stores, "MAX_ROWS", 3000), (readings, "MAX_LISTED", 20000), (alike, "MAX_VALUES", 6),
    (alike, "MAX_FEW", 8), (whence, "MAX_LISTED", 20000), (bounds, "MAX_SIZE", 9), (bounds, "MAX_PART", 2),
    (bounds, "MAX_KEYS", 20), (bounds, "MAX_GROWTH", 1000), (layers, "MAX_PART", 2000), (bags, "MAX_BAGS", 40),
    (bags, "MAX_BAG_ROWS", 20000), (lines, "MAX_FORCE", 16), (bench, "MAX_PLEDGES", 10),
    (ways, "WAYS", ("readings", "tree", "layers", "bags", "whence", "forest", "maps")),
)

PROPERTIES = {
    Question: ("clauses", "asked", "lines", "columns", "tables", "is_plain", "lots", "spread", "full"),
    Store: ("tables", "lines", "domain"),
    Whence: ("parts", "unknowns", "ways", "needed"),
    Ranked: ("question", "store", "order", "total"),
    Scheme: ("columns", "rules", "lines"),
    Tally: ("question", "forest", "store", "total", "changes"),
    Bench: ("question", "store", "total", "pledges"),
}

# The methods of each class, with the number of their arguments; None stands for any number.
METHODS = {
    Question: (
        ("index", 1), ("having", 1), ("with_clause", 1), ("without_clause", 1), ("asking", None), ("renamed", 1),
        ("retabled", 1), ("folded", 1), ("__add__", 1), ("__contains__", 1), ("__len__", 0), ("__iter__", 0),
        ("__eq__", 1), ("__str__", 0), ("__init__", 2),
    ),
    Store: (
        ("rows", 1), ("with_row", 2), ("without_row", 2), ("with_table", 2), ("without_table", 1), ("renamed", 1),
        ("folded", 1), ("within", 1), ("__add__", 1), ("__mul__", 1), ("__contains__", 1), ("__len__", 0),
        ("__iter__", 0), ("__eq__", 1), ("__str__", 0), ("__init__", 2),
    ),
    Whence: (
        ("evaluated", 1), ("least", 1), ("greatest", 1), ("without", 1), ("put_in", 3), ("__add__", 1), ("__mul__", 1),
        ("__contains__", 1), ("__len__", 0), ("__iter__", 0), ("__eq__", 1), ("__str__", 0), ("__init__", 1),
    ),
    Ranked: (
        ("reading_at", 1), ("index", 1), ("part", 2), ("below", 1), ("with_head", 1), ("count_heads", 1), ("head_at", 2),
        ("head_index", 1), ("__contains__", 1), ("__eq__", 1), ("__str__", 0), ("__init__", 3),
    ),
    Scheme: (
        ("with_rule", 1), ("without_rule", 1), ("renamed", 1), ("__contains__", 1), ("__len__", 0), ("__iter__", 0),
        ("__eq__", 1), ("__str__", 0), ("__init__", 2),
    ),
    Tally: (
        ("put", 2), ("take", 2), ("number_at", 2), ("sum_at", 2), ("counted", 1), ("twin", 0), ("__call__", 3),
        ("__contains__", 1), ("__len__", 0), ("__eq__", 1), ("__str__", 0), ("__init__", 3),
    ),
    Bench: (
        ("adjoin", 1), ("drop", 1), ("ask", None), ("put", 2), ("take", 2), ("shrink", 0), ("reduce", 0), ("demand", 1),
        ("waive", 1), ("trial", 0), ("during", 1), ("twin", 0), ("__contains__", 1), ("__len__", 0), ("__iter__", 0),
        ("__eq__", 1), ("__str__", 0), ("__init__", 2),
    ),
    Shell: (("answer", 1), ("bench", 0), ("__call__", 1), ("__len__", 0), ("__init__", 2)),
}

EXAMPLES = (
    (Question, PATH), (Store, STORE), (Whence, Whence({})), (Ranked, Ranked(PATH, STORE, ("b", "c", "a"))),
    (Scheme, Scheme.from_lines("columns a b c d", "rule a -> b", "rule b c -> d")),
    (Tally, Tally(PATH, forest_of(PATH), STORE)), (Bench, Bench(PATH, STORE)),
    (Shell, Shell(write_question(PATH), write_store(STORE))),
)


class InterfaceTest(unittest.TestCase):

    def check_arguments(self, call, many):
        """Checks that a call takes so many arguments by position, and nothing else."""
        kinds = [one.kind for one in inspect.signature(call).parameters.values()]
        if many is None:
            self.assertEqual(kinds, [inspect.Parameter.VAR_POSITIONAL])
        else:
            self.assertEqual(kinds, [inspect.Parameter.POSITIONAL_OR_KEYWORD] * many)

    def test_functions(self):
        for module, name, many in FUNCTIONS:
            function = getattr(module, name)
            self.assertEqual((function.__name__, function.__module__), (name, module.__name__))
            self.check_arguments(function, many)

    def test_classes(self):
        for made, module in ((Question, questions), (Store, stores), (Whence, whence), (Ranked, layers), (Scheme, rules),
                             (Tally, forests), (Bench, bench), (Shell, shell)):
            self.assertEqual((made.__module__, getattr(module, made.__name__)), (module.__name__, made))

    def check_keywords(self, call, many, defaults):
        """Checks that a call takes so many arguments by position, and these keywords."""
        told = list(inspect.signature(call).parameters.values())
        self.assertEqual([one.kind for one in told[:many]], [inspect.Parameter.POSITIONAL_OR_KEYWORD] * many)
        self.assertEqual([one.kind for one in told[many:]], [inspect.Parameter.KEYWORD_ONLY] * len(defaults))
        self.assertEqual({one.name: one.default for one in told[many:]}, defaults)

    def test_keywords(self):
        for module, name, many, defaults in KEYED:
            function = getattr(module, name)
            self.assertEqual((function.__name__, function.__module__), (name, module.__name__))
            self.check_keywords(function, many, defaults)
        for name in ("undo", "redo"):
            self.assertIn(name, Bench.__dict__)
            self.check_keywords(getattr(Bench(PATH, STORE), name), 0, {"many": 1})

    def test_constants(self):
        for module, name, value in CONSTANTS:
            self.assertEqual(getattr(module, name), value)

    def test_properties(self):
        for made in PROPERTIES:
            for name in PROPERTIES[made]:
                self.assertIsInstance(made.__dict__[name], property)

    def test_methods(self):
        for made, example in EXAMPLES:
            for name, many in METHODS[made]:
                self.assertIn(name, made.__dict__)
                self.check_arguments(getattr(example, name), many)
        for made in (Question, Store, Scheme):
            self.assertIsInstance(made.__dict__["from_lines"], classmethod)
            self.check_arguments(made.from_lines, None)


if __name__ == "__main__":
    unittest.main()
