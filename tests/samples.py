"""What the tests share: the objects of the document's examples, wrong values, and one kind of check."""

import unittest

from joinhouse.base.questions import Question
from joinhouse.base.stores import Store
from joinhouse.errors import InvalidQuestion, ParseError, Refused, UnknownName

PATH = Question.from_lines("clause r a b", "clause s b c", "asked a c")
RING = Question.from_lines("clause r a b", "clause s b c", "clause t a c", "asked")
TWICE = Question.from_lines("clause r a b", "clause r c b", "asked a")
LOOP = Question.from_lines("clause r a b", "clause s b c", "clause t c d", "clause u a d")
STORE = Store.from_lines(
    "row r 1 2", "row r 1 3", "row r 4 3", "row s 2 5", "row s 3 5", "row s 3 6", "row t 4 6"
)

SIXTY = 10 ** 60 - 1
SIXTY_ONE = 10 ** 60

DEEP_TUPLE = ((((((((),),),),),),),)
DEEP_LIST = [[[[[[[[]]]]]]]]
DEEP_DICT = {"a": {"a": {"a": {"a": {"a": {"a": {"a": {}}}}}}}}

# Of every kind that a caller can pass, next to what could be taken for right.
VALUES = (
    True,
    False,
    None,
    0,
    1,
    2,
    -1,
    SIXTY,
    -SIXTY,
    SIXTY_ONE,
    -SIXTY_ONE,
    10 ** 99,
    "",
    "a",
    "r",
    "abcdefgh",
    "abcdefghi",
    "A",
    "aB",
    "a1",
    "1",
    "a b",
    " a",
    "a\n",
    "`",
    "{",
    "x" * 4000,
    "\n" * 4000,
    "clause r a b",
    "row r 1 2",
    (),
    (1,),
    (1, 2),
    (True, 2),
    (1, None),
    (-1, 2),
    (SIXTY_ONE, 1),
    (1, [2]),
    ("a",),
    ("a", "b"),
    ("a", ["b"]),
    ("r", ("a", "b")),
    ("r", (1, 2)),
    ("r", (True, 2)),
    ("r", [1, 2]),
    ["r", ("a", "b")],
    ("r", ["a", "b"]),
    ("r", ()),
    ("r", "ab"),
    (("r", ("a", "b")),),
    [],
    [1, 2],
    ["a"],
    ["r", (1, 2)],
    {},
    {"a": "b"},
    {"r": 2},
    {1: 2},
    {True: 2},
    {None: []},
    {("a", 1): {"a": ()}},
    DEEP_TUPLE,
    DEEP_LIST,
    DEEP_DICT,
    PATH,
    TWICE,
    STORE,
    InvalidQuestion("told"),
    UnknownName("a"),
    ParseError(None),
    Refused(("tree",)),
    (PATH, STORE),
    [PATH],
    {"a": STORE},
    {UnknownName("a"): PATH},
)


def same(one, other):
    """Whether two values are equal, and True is not 1."""
    return one is other or (one == other and repr(one) == repr(other))


class RefusingCase(unittest.TestCase):
    """Tests with a check for refused calls."""

    def refused(self, error, call, *values, **more):
        """Checks that a call raises just this error; `keeps` names an attribute and what it keeps."""
        keeps = more.pop("keeps", None)
        with self.assertRaises(error) as caught:
            call(*values, **more)
        self.assertEqual(caught.exception.__class__, error)
        if keeps is not None:
            name, kept = keeps
            held = getattr(caught.exception, name)
            self.assertTrue(same(held, kept), (held, kept))
