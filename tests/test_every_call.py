"""Points 0.4 and 0.5: whatever is passed, a call gives a result or an error of the package, and changes nothing."""

import inspect
import random
import unittest

from joinhouse import errors
from joinhouse.base.questions import Question
from joinhouse.base.stores import Store
from joinhouse.count.whence import Whence
from joinhouse.order.layers import Ranked, layered_order
from tests.brute import asking
from tests.samples import LOOP, PATH, RING, STORE, TWICE, VALUES
from tests.test_interface import EXAMPLES, FUNCTIONS, METHODS

OWN = tuple(
    made for _, made in inspect.getmembers(errors, inspect.isclass)
    if issubclass(made, Exception) and made.__module__ == "joinhouse.errors"
)
GOOD = (
    PATH, PATH, RING, TWICE, LOOP, asking("r a b", "asked a"), STORE, STORE, STORE.without_table("t"), Whence({}),
    Ranked(PATH, STORE, ("b", "c", "a")),
    (("r", (1, 2)),), (1, 2), (1,), ("a", "b"), ("a", "c"), ("b",), ("r", (1, 2)), {("r", (1, 2)): 1}, (STORE, (1,)),
    ((0, 1),), ((1, 0), (0, 1)), ((0, 1), (1, 2)), ("crown", ("a", "b", "c")), ("ring", ("a", "b", "c", "d")),
    {"a": "a", "b": "b", "c": "a"}, {"a": "a", "b": "b", "c": "c"}, ((0, {"a": "a", "b": "b", "c": "a"}),), (PATH,),
    (TWICE, TWICE), 0, 1, 2, 3, "r", "a", {"r": (1, 1), "s": (1, 1)}, {"r": (1, 1), "s": (1, 2), "t": (0, 1)},
    (("s", 0, 1),), (("r", (1, 2)), ("s", (1, 2))), (("a", (1, 2)), ("c", (1, 2))), (), ("b", "a", "c"),
    ("a", "b", "c"), ("homes", (0, 0, 1)), ("trio", "a", "c", "b"), (("a", "b"), ("b", "c")),
    ((("a", "b"), ("b", "c")), ((0, 1),)), ((("a", "b", "c"),), ()), {(): ("a", "b", "c"), ("a",): ("b", "c"),
                                                                     ("b",): ("c",), ("c",): ("a", "b")},
    ("bags", ((("a", "b"), ("b", "c")), ((0, 1),))), (("b",), ("c",), ()),
)
TRIES = 250


def result(call, values):
    """What a call gives: a result, or an error of the package."""
    try:
        found = call(*values)
        return list(found) if inspect.isgenerator(found) else found
    except OWN as caught:
        return caught


def shown(value):
    """A text that tells all that a call could have changed of a value."""
    if isinstance(value, (Question, Store)):
        return repr(value.lines)
    if isinstance(value, Ranked):
        return repr((value.question.lines, value.store.lines, value.order, value.total))
    return repr(value.parts) if isinstance(value, Whence) else repr(value)


class EveryCallTest(unittest.TestCase):

    def check(self, name, call, values):
        told = [shown(value) for value in values]
        found = result(call, values)
        self.assertEqual([shown(value) for value in values], told, name)
        again = result(call, values)
        self.assertEqual(found.__class__, again.__class__, (name, values))
        if not isinstance(found, Exception):
            self.assertEqual(found, again)
            if name.startswith("is_"):
                self.assertIsInstance(found, bool)

    def test_functions(self):
        chance = random.Random(1)
        for module, name, many in FUNCTIONS:
            call = getattr(module, name)
            for at in range(TRIES):
                # Some arguments are right, so that the later ones are looked at, too.
                values = [chance.choice(GOOD if at % 3 or chance.random() < 0.5 else VALUES) for _ in range(many)]
                with self.subTest(name=name):
                    self.check(name, call, values)

    def test_keywords(self):
        for value in (*VALUES, *GOOD):
            for question in (PATH, RING, value):
                self.check("layered_order", lambda one, two: layered_order(one, begin=two), [question, value])

    def test_values_at_the_end(self):
        for module, name, many in FUNCTIONS:
            if many:
                call = getattr(module, name)
                for value in VALUES:
                    for first in (
                        (PATH, PATH, PATH, PATH), (PATH, STORE, STORE, STORE), (STORE, STORE, (), ()), (PATH, 0, (), ()),
                        (PATH, {"r": (1, 1), "s": (1, 2)}, (), ()), (PATH, ("b", "a", "c"), (), ()), (PATH, (), (), ()),
                        (RING, 1, (), ()),
                    ):
                        with self.subTest(name=name):
                            self.check(name, call, [*first[:many - 1], value])

    def test_methods(self):
        chance = random.Random(2)
        for made, example in EXAMPLES:
            for name, many in METHODS[made]:
                if not name.startswith("__") and many:
                    for _ in range(TRIES):
                        values = [chance.choice(VALUES if chance.random() < 0.6 else GOOD) for _ in range(many)]
                        with self.subTest(name=name):
                            self.check(name, getattr(example, name), values)
            for value in (*VALUES, *GOOD):
                self.assertIn(example == value, (True, False))
                self.assertIs(example != value, not example == value)
                self.assertIn(value in example, (True, False))


if __name__ == "__main__":
    unittest.main()
