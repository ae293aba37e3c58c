"""Points 0.4 and 0.5: whatever is passed, a call gives a result or an error of the package, and changes nothing."""

import inspect
import random
import unittest

from joinhouse import errors
from joinhouse.base.questions import Question
from joinhouse.base.stores import Store
from joinhouse.count.whence import Whence
from joinhouse.change.forests import Tally, forest_of
from joinhouse.order.layers import Ranked, layered_order
from joinhouse.split.rules import Scheme
from joinhouse.text.shell import Shell
from joinhouse.text.texts import write_question, write_store
from joinhouse.use.bench import Bench
from joinhouse.work.ways import WAYS
from tests.brute import asking
from tests.samples import LOOP, PATH, RING, STORE, TWICE, VALUES
from tests.test_interface import EXAMPLES, FUNCTIONS, KEYED, METHODS

OWN = tuple(
    made for _, made in inspect.getmembers(errors, inspect.isclass)
    if issubclass(made, Exception) and made.__module__ == "joinhouse.errors"
)
SCHEME = Scheme.from_lines("columns a b c d", "rule a -> b", "rule b c -> d")
FOREST = forest_of(PATH)
TALLY = Tally(PATH.asking("b"), FOREST, STORE)
BENCH = Bench(PATH, STORE)
GOOD = (
    PATH, PATH, RING, TWICE, LOOP, asking("r a b", "asked a"), STORE, STORE, STORE.without_table("t"), Whence({}),
    Ranked(PATH, STORE, ("b", "c", "a")),
    (("r", (1, 2)),), (1, 2), (1,), ("a", "b"), ("a", "c"), ("b",), ("r", (1, 2)), {("r", (1, 2)): 1}, (STORE, (1,)),
    ((0, 1),), ((1, 0), (0, 1)), ((0, 1), (1, 2)), ("crown", ("a", "b", "c")), ("ring", ("a", "b", "c", "d")),
    {"a": "a", "b": "b", "c": "a"}, {"a": "a", "b": "b", "c": "c"}, ((0, {"a": "a", "b": "b", "c": "a"}),), (PATH,),
    (TWICE, TWICE), 0, 1, 2, 3, "r", "a", {"r": (1, 1), "s": (1, 1)}, {"r": (1, 1), "s": (1, 2), "t": (0, 1)},
    (("s", 0, 1),), (("r", (1, 2)), ("s", (1, 2))), (("a", (1, 2)), ("c", (1, 2))), (), ("b", "a", "c"),
    ("a", "b", "c"), ("homes", (0, 0, 1)), ("trio", "a", "c", "b"), (("a", "b"), ("b", "c")),
    ((("a", "b"), ("b", "c")), ((0, 1),)), ((("a", "b", "c"),), ()), {(): ("a", "b", "c"), ("a",): ("b", "c"),
                                                                     ("b",): ("c",), ("c",): ("a", "b")},
    ("bags", ((("a", "b"), ("b", "c")), ((0, 1),))), (("b",), ("c",), ()),
    SCHEME, SCHEME, SCHEME, (("a", "b"), ("a", "c", "d")), (("a", "b"), ("b", "c", "d")), (("a",), ("b",)), (("a", "c"), ("d",)),
    ((0, 0, 1, 1), (2, 0, 0, 0)), ((0, 0, 1),), (((0, 0, 1, 1), (2, 0, 0, 0)), (0, 0, 0, 0)), FOREST, FOREST, None,
    (("r", (1, 2)), ("r", (1, 3)), ("r", (4, 3))), (((1, 2, 5), 1),), (("a", "b"), (0, 2, 1)), ("above", "b", "a"),
    (0, 1, 2, (0, 1), (0, 2), (1, 2)), "readings", "tree", "forest", "put", "take", ("plain",), ("least", 3), ("key", "t", 0, 1),
    "clause r a b\nasked a", "row r 1 2\nrow s 2 3", "a=x b=y", "0-1 1-2", "crown a b c", "-", "total", "shrink", "put s 2 6",
    TALLY, BENCH, ("r", ("b", "c")), ("s", ("b", "c")), (9, 9), (2, 6), "s", "t", "b", "c",
)
CHANGING = (Tally, Bench, Shell)
TRIES = 250


def result(call, values):
    """What a call gives: a result, or an error of the package."""
    try:
        found = call(*values)
        return list(found) if inspect.isgenerator(found) else found
    except OWN as caught:
        return caught


def back(bench):
    """How far a bench can be taken back and done again."""
    steps = []
    for call in (bench.undo, bench.redo):
        many = 0
        while not isinstance(result(call, ()), Exception):
            many += 1
        steps.append((many, list(bench)))
    return steps


def shown(value):
    """A text that tells all that a call could have changed of a value."""
    if isinstance(value, (Question, Store, Scheme)):
        return repr(value.lines)
    if isinstance(value, Tally):
        return repr((value.question.lines, value.forest, value.store.lines, value.changes, value.total))
    if isinstance(value, Bench):
        return repr((list(value), value.pledges, value.total, back(value.twin())))
    if isinstance(value, Shell):
        return repr((shown(value.bench()), len(value)))
    if isinstance(value, Ranked):
        return repr((value.question.lines, value.store.lines, value.order, value.total))
    return repr(value.parts) if isinstance(value, Whence) else repr(value)


class EveryCallTest(unittest.TestCase):

    def check(self, name, call, values):
        told = [shown(value) for value in values]
        found = result(call, values)
        self.assertEqual([shown(value) for value in values], told, name)
        again = result(call, values)
        self.assertEqual(found.__class__, again.__class__, (name, values))
        if not isinstance(found, Exception):
            self.assertEqual(found, again)
            if name.startswith("is_"):
                self.assertIsInstance(found, bool)

    def test_functions(self):
        chance = random.Random(1)
        for module, name, many in FUNCTIONS:
            call = getattr(module, name)
            for at in range(TRIES):
                # Some arguments are right, so that the later ones are looked at, too.
                values = [chance.choice(GOOD if at % 3 or chance.random() < 0.5 else VALUES) for _ in range(many)]
                with self.subTest(name=name):
                    self.check(name, call, values)

    def test_keyed_functions(self):
        chance = random.Random(3)
        for module, name, many, defaults in KEYED:
            call = getattr(module, name)
            for at in range(2 * TRIES):
                values = [chance.choice(GOOD if at % 4 or chance.random() < 0.5 else VALUES) for _ in range(many + len(defaults))]
                if at % 2:
                    values[:2] = [PATH, STORE][:many]
                with self.subTest(name=name):
                    self.check(name, lambda *given: call(*given[:many], **dict(zip(defaults, given[many:]))), values)

    def changed(self, example):
        """A fresh object of a class whose objects change."""
        if isinstance(example, Shell):
            return Shell(write_question(PATH), write_store(STORE))
        return example.twin()

    def test_objects_that_change(self):
        chance = random.Random(4)
        refused = 0
        for made, example in EXAMPLES:
            if made in CHANGING:
                for name, many in METHODS[made]:
                    if name not in ("during", "__init__", "__eq__", "__contains__", "__len__", "__iter__", "__str__", "trial"):
                        for at in range(TRIES):
                            count = chance.randint(0, 3) if many is None else many
                            values = [chance.choice(VALUES if at % 4 == 0 else GOOD) for _ in range(count)]
                            with self.subTest(made=made.__name__, name=name):
                                refused += self.check_change(example, name, values)
                for value in (*VALUES, *GOOD):
                    self.assertIn(example == value, (True, False))
                    self.assertIs(example != value, not example == value)
                    if made is not Shell:
                        self.assertIn(value in example, (True, False))
        self.assertGreater(refused, 500)

    def check_change(self, example, name, values):
        """Checks that equal calls on equal objects come to the same, and that a refused one changes nothing."""
        one, other = self.changed(example), self.changed(example)
        told = [shown(value) for value in values]
        before = shown(one)
        found, again = result(getattr(one, name), values), result(getattr(other, name), values)
        self.assertEqual([shown(value) for value in values], told)
        self.assertEqual((found.__class__, shown(one)), (again.__class__, shown(other)))
        if isinstance(found, Exception):
            self.assertEqual(shown(one), before)
            return 1
        self.assertEqual(found, again)
        return 0

    def test_keywords_of_benches(self):
        bench = Bench(PATH, STORE)
        bench.put("s", (2, 6))
        bench.ask("b")
        bench.undo()
        for value in (*VALUES, *GOOD):
            for name in ("undo", "redo"):
                twin, other = bench.twin(), bench.twin()
                found = result(lambda many: getattr(twin, name)(many=many), [value])
                self.assertEqual(found.__class__, result(lambda many: getattr(other, name)(many=many), [value]).__class__)
                if isinstance(found, Exception):
                    self.assertEqual(shown(twin), shown(bench))
        for way in WAYS:
            self.assertIs(result(lambda: bench.during(lambda same: way), ()), way)

    def test_keywords(self):
        for value in (*VALUES, *GOOD):
            for question in (PATH, RING, value):
                self.check("layered_order", lambda one, two: layered_order(one, begin=two), [question, value])

    def test_values_at_the_end(self):
        for module, name, many in FUNCTIONS:
            if many:
                call = getattr(module, name)
                for value in VALUES:
                    for first in (
                        (PATH, PATH, PATH, PATH), (PATH, STORE, STORE, STORE), (STORE, STORE, (), ()), (PATH, 0, (), ()),
                        (PATH, {"r": (1, 1), "s": (1, 2)}, (), ()), (PATH, ("b", "a", "c"), (), ()), (PATH, (), (), ()),
                        (RING, 1, (), ()), (SCHEME, (("a", "b"), ("a", "c", "d")), (), ()), (SCHEME, (("a",), ("b",)), (), ()),
                        (SCHEME, ("a",), (), ()), (PATH, FOREST, (), ()), (FOREST, (), (), ()),
                    ):
                        with self.subTest(name=name):
                            self.check(name, call, [*first[:many - 1], value])

    def test_methods(self):
        chance = random.Random(2)
        for made, example in EXAMPLES:
            for name, many in METHODS[made] if made not in CHANGING else ():
                if not name.startswith("__") and many:
                    for _ in range(TRIES):
                        values = [chance.choice(VALUES if chance.random() < 0.6 else GOOD) for _ in range(many)]
                        with self.subTest(name=name):
                            self.check(name, getattr(example, name), values)
            for value in (*VALUES, *GOOD) if made not in CHANGING else ():
                self.assertIn(example == value, (True, False))
                self.assertIs(example != value, not example == value)
                self.assertIn(value in example, (True, False))


if __name__ == "__main__":
    unittest.main()
