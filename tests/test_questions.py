"""Points 0.9, 2.1 and the class of joinhouse.base.questions."""

import itertools
import random
import unittest

from joinhouse.base import questions
from joinhouse.base.questions import Question, is_clause
from joinhouse.base.words import is_name
from joinhouse.errors import InvalidClause, InvalidOperation, InvalidQuestion, ParseError, UnknownName
from tests.samples import PATH, RING, STORE, TWICE, VALUES, RefusingCase

AB = ("r", ("a", "b"))
BC = ("s", ("b", "c"))
LETTERS = "abcdefgh"
EIGHT = tuple(("r", (letter,)) for letter in LETTERS)
LONG = Question((("r", tuple(LETTERS)), ("s", ("a", "a", "a", "a", "a", "a", "a", "a"))), ("h", "a"))
ALL = (
    PATH,
    RING,
    TWICE,
    LONG,
    Question((("r", ("a",)),), ()),
    Question((("r", ("a", "a")),), ("a",)),
    Question(EIGHT, tuple(reversed(LETTERS))),
    Question((("abcdefgh", ("abcdefgh", "z")), ("b", ("y",))), ("z", "y")),
    Question((("r", ("a", "b")), ("r", ("b", "a")), ("r", ("c", "d")), ("s", ("e",))), ("e", "c")),
)


class ClauseTest(RefusingCase):

    def test_clauses(self):
        for value in (AB, ("r", ("a",)), ("r", ("a", "a")), ("a", ("a",) * 8), ("abcdefgh", ("abcdefgh",)), ("r", ("r",))):
            self.assertIs(is_clause(value), True, value)

    def test_widths(self):
        for width in range(12):
            self.assertIs(is_clause(("r", ("a",) * width)), 1 <= width <= 8, width)
            self.assertIs(is_clause(("r", tuple("abcdefghijkl"[:width]))), 1 <= width <= 8, width)

    def test_no_clauses(self):
        for value in (
            ["r", ("a",)], ("r", ["a"]), ("r", "ab"), ("r", "a"), ("r",), ("r", ("a",), ("b",)), ("r", "a", "b"),
            ("", ("a",)), ("R", ("a",)), ("abcdefghi", ("a",)), (1, ("a",)), (None, ("a",)), (("r",), ("a",)),
            ("r", ("",)), ("r", ("a", "B")), ("r", ("a", 1)), ("r", ("a", None)), ("r", ("abcdefghi",)),
            ("r", (("a",),)), ("r", {"a": "b"}), {"r": ("a",)}, "clause r a", PATH, (PATH, ("a",)), ("r", PATH),
        ):
            self.assertIs(is_clause(value), False, value)

    def test_values_of_every_kind(self):
        for value in VALUES:
            self.assertIs(is_clause(value), value == AB and isinstance(value, tuple), value)
            self.assertIs(is_clause((value, ("a",))), is_name(value), value)
            self.assertIs(is_clause(("r", ("a", value))), is_name(value), value)


class CreationTest(RefusingCase):

    def test_constants(self):
        self.assertEqual((questions.MAX_CLAUSES, questions.MAX_COLUMNS), (8, 8))

    def test_told_back(self):
        made = Question((AB, BC), ("c", "a"))
        self.assertEqual((made.clauses, made.asked), ((AB, BC), ("c", "a")))
        self.assertEqual(Question((AB,), ()).asked, ())

    def test_numbers_of_clauses(self):
        for many in range(12):
            clauses = tuple(("r", (one, other)) for one, other in itertools.product("abcd", "abcd"))[:many]
            if 1 <= many <= 8:
                self.assertEqual(Question(clauses, ()).clauses, clauses)
            else:
                self.refused(InvalidQuestion, Question, clauses, ())

    def test_numbers_of_columns(self):
        self.assertEqual(len(Question((("r", tuple(LETTERS)),), ()).columns), 8)
        self.refused(InvalidQuestion, Question, (("r", tuple("abcdefgh")), ("s", ("i",))), ())
        self.refused(InvalidQuestion, Question, (("r", tuple("abcdefghi")),), ())
        nine = tuple(("r", (one, other)) for one, other in ("ab", "cd", "ef", "gh", "ii"))
        self.assertEqual(len(Question(nine[:4], ()).columns), 8)
        self.refused(InvalidQuestion, Question, nine, ())

    def test_ascending_clauses(self):
        self.refused(InvalidQuestion, Question, (BC, AB), ())
        self.refused(InvalidQuestion, Question, (AB, AB), ())
        self.refused(InvalidQuestion, Question, (AB, BC, BC), ())
        self.refused(InvalidQuestion, Question, (("r", ("b", "a")), ("r", ("a", "b"))), ())
        self.assertEqual(len(Question((("r", ("a", "b")), ("r", ("b", "a"))), ())), 2)

    def test_widths_of_a_table(self):
        self.refused(InvalidQuestion, Question, (("r", ("a",)), ("r", ("a", "b"))), ())
        self.refused(InvalidQuestion, Question, (("r", ("a", "b")), ("r", ("b",)), ("s", ("b",))), ())
        self.refused(InvalidQuestion, Question, (("r", ("a",)), ("s", ("a", "b")), ("s", ("b",))), ())
        self.assertEqual(Question((("r", ("a",)), ("s", ("a", "b"))), ()).tables, {"r": 1, "s": 2})

    def test_a_column_twice_in_a_clause(self):
        made = Question((("r", ("a", "b", "a")),), ("a",))
        self.assertEqual((made.columns, made.tables), (("a", "b"), {"r": 3}))

    def test_asked_columns(self):
        for asked in ((), ("a",), ("c", "a"), ("a", "b", "c"), ("c", "b", "a")):
            self.assertEqual(Question((AB, BC), asked).asked, asked)
        for asked in (("d",), ("a", "d"), ("a", "a"), ("a", "b", "a"), ("r",), "a", "ac", ["a"], {"a": "b"}, None,
                      ("a", 1), ("a", None), (("a",),), ("",), "", [], {}, 0, True):
            self.refused(InvalidQuestion, Question, (AB, BC), asked)

    def test_values_of_every_kind(self):
        for value in VALUES:
            if not (isinstance(value, tuple) and value == (AB,)):
                self.refused(InvalidQuestion, Question, value, ())
            if not (isinstance(value, tuple) and value in ((), ("a",), ("a", "b"))):
                self.refused(InvalidQuestion, Question, (AB,), value)
            self.refused(InvalidQuestion, Question, value, value)
            self.refused(InvalidQuestion, Question, (AB, value), ())
            self.refused(InvalidQuestion, Question, ((value, AB[1]), value), ())
            self.refused(InvalidQuestion, Question, (("r", ("a", ("b", value))),), ())

    def test_it_never_changes(self):
        asked = PATH.asked
        tables = PATH.tables
        tables["r"] = 5
        tables["z"] = 1
        del tables["s"]
        self.assertEqual(PATH.tables, {"r": 2, "s": 2})
        PATH.with_clause(("t", ("d",)))
        PATH.without_clause(AB)
        PATH.asking("b")
        self.assertEqual((PATH.clauses, PATH.asked), ((AB, BC), asked))


class LinesTest(RefusingCase):

    def test_lines_there_and_back(self):
        for question in ALL:
            made = Question.from_lines(*question.lines)
            self.assertEqual((made.clauses, made.asked), (question.clauses, question.asked))

    def test_lines_told(self):
        self.assertEqual(PATH.lines, ("clause r a b", "clause s b c", "asked a c"))
        self.assertEqual(RING.lines, ("clause r a b", "clause s b c", "clause t a c", "asked"))
        self.assertEqual(Question((("r", ("a", "a")),), ("a",)).lines, ("clause r a a", "asked a"))

    def test_any_order(self):
        for question in (PATH, RING, TWICE):
            for lines in itertools.permutations(question.lines):
                self.assertEqual(Question.from_lines(*lines), question)

    def test_a_line_left_out(self):
        self.assertEqual(Question.from_lines("clause r a b", "clause s b c"), PATH.asking())
        self.assertEqual(Question.from_lines("clause r a b", "asked a"), Question((AB,), ("a",)))
        self.refused(InvalidQuestion, Question.from_lines, "clause r a b", "asked a c")
        self.refused(InvalidQuestion, Question.from_lines, "asked a")
        self.refused(InvalidQuestion, Question.from_lines, "asked")
        self.refused(InvalidQuestion, Question.from_lines)

    def test_a_line_told_twice(self):
        lines = PATH.lines
        for at, line in enumerate(lines):
            for place in range(len(lines) + 1):
                many = lines[:place] + (line,) + lines[place:]
                second = at + 1 if place <= at else place
                self.refused(ParseError, Question.from_lines, *many, keeps=("number", second))

    def test_asked_told_again_otherwise(self):
        for again in ("asked", "asked a", "asked c a", "asked a c"):
            self.refused(ParseError, Question.from_lines, "asked a c", "clause r a c", again, keeps=("number", 2))
            self.refused(ParseError, Question.from_lines, "asked", again, "clause r a c", keeps=("number", 1))

    def test_bent_lines(self):
        for line in (
            "", " ", "clause", "clause ", "clause r", "clause r ", "clause  r a", "clause r  a", "clause r a ",
            " clause r a", "clause r a\n", "\nclause r a", "clause\tr a", "clauser a", "Clause r a", "clauses r a",
            "clause R a", "clause r A", "clause r aB", "clause abcdefghi a", "clause r abcdefghi", "clause r a1",
            "clause 1 a", "clause r a b c d e f g h i", "clause r a a a a a a a a a", "clause r a,b", "clause r(a b)",
            "asked  a", "asked a ", " asked a", "asked ", "asked a  b", "asked A", "asked abcdefghi", "asked a a",
            "asked a b a", "Asked a", "askeda", "asked a,b", "asked\n", "ask a", "asked 1", "row r 1", "table r 1",
            "r a b", "a", "clause r a\nclause s a", "x" * 4000,
        ):
            self.refused(ParseError, Question.from_lines, line, keeps=("number", 0))
            self.refused(ParseError, Question.from_lines, "clause t a b", line, keeps=("number", 1))
            self.refused(ParseError, Question.from_lines, "clause t a b", line, "no", 7, keeps=("number", 1))

    def test_values_that_are_no_lines(self):
        for value in VALUES:
            if not (isinstance(value, str) and value == "clause r a b"):
                self.refused(ParseError, Question.from_lines, "clause t a", value, None, keeps=("number", 1))
                self.refused(ParseError, Question.from_lines, value, keeps=("number", 0))

    def test_parse_errors_come_first(self):
        self.refused(ParseError, Question.from_lines, "clause r a", "clause r a b", "asked z", "", keeps=("number", 3))
        many = [f"clause r {one} {other}" for one in "abcdef" for other in "abcdef"]
        self.refused(ParseError, Question.from_lines, *many, "clause", keeps=("number", 36))

    def test_lines_of_no_question(self):
        for lines in (
            ("clause r a", "clause r a b"),
            ("clause r a b", "asked c"),
            ("clause r a b", "asked a b c d e f g h i"),
            tuple(f"clause r {letter}" for letter in "abcdefghi"),
            ("clause r a b c d e f g h", "clause s i"),
            tuple(f"clause r a {letter} {other}" for letter in "abc" for other in "abc"),
        ):
            self.refused(InvalidQuestion, Question.from_lines, *lines)

    def test_edges(self):
        self.assertEqual(Question.from_lines("clause r a b c d e f g h").tables, {"r": 8})
        self.assertEqual(Question.from_lines("clause abcdefgh abcdefgh").columns, ("abcdefgh",))
        self.assertEqual(len(Question.from_lines(*[f"clause r {letter}" for letter in LETTERS])), 8)
        self.assertEqual(Question.from_lines("clause asked clause", "asked clause").asked, ("clause",))
        self.assertEqual(Question.from_lines("asked b asked", "clause r asked b").asked, ("b", "asked"))


class TellingTest(RefusingCase):

    def test_columns_and_tables(self):
        for question in ALL:
            self.assertEqual(question.columns, tuple(sorted({c for _, columns in question.clauses for c in columns})))
            self.assertEqual(list(question.tables), sorted({table for table, _ in question.clauses}))
            self.assertEqual(question.tables, {table: len(columns) for table, columns in question.clauses})
        self.assertEqual(Question((("r", ("z", "b")), ("s", ("a",))), ()).columns, ("a", "b", "z"))

    def test_plain(self):
        self.assertEqual([q.is_plain for q in ALL], [True, True, False, True, True, True, False, True, False])

    def test_lots(self):
        self.assertEqual(PATH.lots, (("a", "b", "c"),))
        self.assertEqual(ALL[6].lots, tuple((letter,) for letter in LETTERS))
        self.assertEqual(ALL[7].lots, (("abcdefgh", "z"), ("y",)))
        self.assertEqual(ALL[8].lots, (("a", "b"), ("c", "d"), ("e",)))
        made = Question.from_lines("clause r a d", "clause s b c", "clause t e f", "clause u c d")
        self.assertEqual(made.lots, (("a", "b", "c", "d"), ("e", "f")))
        made = Question.from_lines("clause r h a", "clause s b", "clause t c g", "clause u g h", "clause v d e")
        self.assertEqual(made.lots, (("a", "c", "g", "h"), ("b",), ("d", "e")))

    def test_lots_of_random_questions(self):
        chance = random.Random(5)
        for _ in range(300):
            clauses = {("r", tuple(chance.choices(LETTERS, k=2))) for _ in range(chance.randrange(1, 7))}
            question = Question(tuple(sorted(clauses)), ())
            lots = question.lots
            self.assertEqual(sorted(c for lot in lots for c in lot), list(question.columns))
            self.assertEqual(lots, tuple(sorted(tuple(sorted(lot)) for lot in lots)))
            for one in question.columns:
                self.assertIn(tuple(sorted(reached(question, one))), lots)

    def test_spread(self):
        self.assertEqual(str(TWICE.spread), "a : ca(a b) cb(c b)")
        for question in ALL:
            spread = question.spread
            self.assertTrue(spread.is_plain)
            self.assertEqual(spread.asked, question.asked)
            self.assertEqual([columns for _, columns in spread.clauses], [columns for _, columns in question.clauses])
            self.assertEqual(list(spread.tables), ["c" + letter for letter in LETTERS[:len(question)]])

    def test_full(self):
        for question in ALL:
            self.assertEqual((question.full.clauses, question.full.asked), (question.clauses, question.columns))

    def test_index(self):
        for question in ALL:
            for at, clause in enumerate(question.clauses):
                self.assertEqual(question.index(clause), at)
                self.assertIs(question.index(clause).__class__, int)
        for value in VALUES + (BC, ("r", ("b", "a")), ("t", ("a", "b"))):
            if value != AB:
                self.refused(InvalidClause, Question((AB,), ()).index, value)

    def test_having(self):
        self.assertEqual([PATH.having(column) for column in "abc"], [(0,), (0, 1), (1,)])
        self.assertEqual(Question((("r", ("a", "a")),), ()).having("a"), (0,))
        for value in VALUES + ("s", "d", "ab", ("c",)):
            if not (isinstance(value, str) and value in ("a", "b", "c")):
                self.refused(UnknownName, PATH.having, value, keeps=("word", value))


def reached(question, column):
    """All columns that hang together with one."""
    found = {column}
    while True:
        more = {c for _, columns in question.clauses if found & set(columns) for c in columns}
        if more <= found:
            return found
        found |= more


class ChangingTest(RefusingCase):

    def test_with_clause(self):
        made = PATH.with_clause(("a", ("z", "a")))
        self.assertEqual((made.clauses, made.asked), ((("a", ("z", "a")), AB, BC), ("a", "c")))
        made = PATH.with_clause(("r", ("b", "b")))
        self.assertEqual(made.clauses, (AB, ("r", ("b", "b")), BC))
        self.assertEqual(PATH.with_clause(("z", ("a",))).clauses[2], ("z", ("a",)))

    def test_with_no_clause(self):
        for value in VALUES:
            if not is_clause(value):
                self.refused(InvalidClause, PATH.with_clause, value)
        for value in (AB, BC, ("r", ()), ("r", ("a",) * 9), ("r", tuple("abcdefghi")), ["t", ("a",)], ("t", ["a"])):
            self.refused(InvalidClause, PATH.with_clause, value)

    def test_with_too_much(self):
        self.refused(InvalidQuestion, PATH.with_clause, ("r", ("a",)))
        self.refused(InvalidQuestion, PATH.with_clause, ("s", ("a", "b", "c")))
        self.refused(InvalidQuestion, PATH.with_clause, ("t", tuple("defghi")))
        self.assertEqual(len(PATH.with_clause(("t", tuple("defgh"))).columns), 8)
        self.refused(InvalidQuestion, Question(EIGHT, ()).with_clause, ("s", ("a",)))
        self.assertEqual(len(Question(EIGHT[:7], ()).with_clause(("s", ("a",)))), 8)
        self.refused(InvalidClause, Question(EIGHT, ()).with_clause, ("r", ("a",)))
        self.refused(InvalidClause, Question(EIGHT, ()).with_clause, ("s", ()))

    def test_without_clause(self):
        self.assertEqual(RING.without_clause(("t", ("a", "c"))), PATH.asking())
        self.assertEqual(PATH.without_clause(AB), Question((BC,), ("c",)))
        self.assertEqual(PATH.without_clause(BC), Question((AB,), ("a",)))
        full = RING.asking("c", "b", "a")
        for clause in RING.clauses:
            self.assertEqual(full.without_clause(clause).asked, ("c", "b", "a"))
        self.assertEqual(PATH.asking("c", "b", "a").without_clause(AB).asked, ("c", "b"))

    def test_without_no_clause(self):
        for value in VALUES + (("t", ("a", "c")), ("r", ("b", "a")), ["s", ("b", "c")], ("s", ["b", "c"])):
            if value != AB:
                self.refused(InvalidClause, PATH.without_clause, value)
        self.refused(InvalidQuestion, Question((AB,), ()).without_clause, AB)
        self.refused(InvalidClause, Question((AB,), ()).without_clause, BC)

    def test_there_and_back(self):
        for question in ALL:
            for clause in question.clauses:
                if len(question) > 1:
                    made = question.without_clause(clause)
                    self.assertNotIn(clause, made)
                    self.assertEqual(made.with_clause(clause).clauses, question.clauses)

    def test_asking(self):
        for asked in ((), ("a",), ("b", "a"), ("c", "a", "b")):
            self.assertEqual((PATH.asking(*asked).clauses, PATH.asking(*asked).asked), (PATH.clauses, asked))

    def test_asking_what_is_not_there(self):
        for value in VALUES + ("d", "r", "ab"):
            if not (isinstance(value, str) and value in ("a", "b", "c")):
                self.refused(UnknownName, PATH.asking, value, keeps=("word", value))
                self.refused(UnknownName, PATH.asking, "a", "a", value, "z", keeps=("word", value))
        self.refused(UnknownName, PATH.asking, "y", "z", keeps=("word", "y"))

    def test_asking_twice(self):
        self.refused(InvalidQuestion, PATH.asking, "a", "a")
        self.refused(InvalidQuestion, PATH.asking, "a", "b", "c", "a")
        self.refused(UnknownName, PATH.asking, "a", "a", "z", keeps=("word", "z"))

    def test_renamed(self):
        made = PATH.renamed({"a": "c", "b": "a", "c": "b"})
        self.assertEqual(str(made), "c b : r(c a) s(a b)")
        made = TWICE.renamed({"a": "z", "b": "y", "c": "x"})
        self.assertEqual(str(made), "z : r(x y) r(z y)")
        for question in ALL:
            self.assertEqual(question.renamed({column: column for column in question.columns}), question)

    def test_no_renaming(self):
        for names in VALUES + (
            {"a": "x", "b": "y"}, {"a": "x", "b": "y", "c": "y"}, {"a": "x", "b": "y", "c": "z", "d": "w"},
            {"a": "x", "b": "y", "d": "z"}, {"a": "x", "b": "y", "c": "Z"}, {"a": "x", "b": "y", "c": None},
            {"a": "x", "b": "y", "c": ["z"]}, {"a": "x", "b": "y", "c": "abcdefghi"}, {"a": "x", "b": "y", None: "z"},
            (("a", "x"), ("b", "y"), ("c", "z")),
        ):
            self.refused(InvalidOperation, PATH.renamed, names)

    def test_retabled(self):
        self.assertEqual(str(PATH.retabled({"r": "s", "s": "r"})), "a c : r(b c) s(a b)")
        self.assertEqual(str(TWICE.retabled({"r": "abcdefgh"})), "a : abcdefgh(a b) abcdefgh(c b)")
        for question in ALL:
            self.assertEqual(question.retabled({table: table for table in question.tables}), question)

    def test_no_retabling(self):
        for names in VALUES + (
            {"r": "x"}, {"r": "x", "s": "x"}, {"r": "x", "s": "y", "t": "z"}, {"r": "x", "t": "y"},
            {"r": "x", "s": 1}, {"r": "x", "s": ""}, {"r": "x", "s": ["y"]}, {"a": "x", "b": "y", "c": "z"},
        ):
            self.refused(InvalidOperation, PATH.retabled, names)

    def test_folded(self):
        self.assertEqual(str(PATH.folded({"a": "a", "b": "a", "c": "c"})), "a c : r(a a) s(a c)")
        self.assertEqual(str(PATH.folded({"a": "x", "b": "x", "c": "x"})), "x : r(x x) s(x x)")
        self.assertEqual(str(TWICE.folded({"a": "x", "b": "y", "c": "x"})), "x : r(x y)")
        three = PATH.asking("c", "b", "a")
        self.assertEqual(three.folded({"a": "z", "b": "y", "c": "z"}).asked, ("z", "y"))
        self.assertEqual(three.folded({"a": "z", "b": "z", "c": "y"}).asked, ("y", "z"))
        self.assertEqual(three.folded({"a": "b", "b": "c", "c": "a"}), three.renamed({"a": "b", "b": "c", "c": "a"}))
        self.assertEqual(str(PATH.folded({"a": "z", "b": "b", "c": "a"})), "z a : r(z b) s(b a)")

    def test_no_folding(self):
        for names in VALUES + (
            {"a": "x", "b": "x"}, {"a": "x", "b": "x", "c": "x", "d": "x"}, {"a": "x", "b": "x", "d": "x"},
            {"a": "x", "b": "x", "c": "X"}, {"a": "x", "b": "x", "c": 1}, {"a": "x", "b": "x", "c": ["x"]},
            {"a": "x", "b": "x", True: "x"}, ("a", "b", "c"), {"a": "x", "b": "x", "c": ""},
        ):
            self.refused(InvalidOperation, PATH.folded, names)

    def test_dicts_stay(self):
        names = {"c": "x", "a": "y", "b": "z"}
        PATH.renamed(names)
        PATH.folded(names)
        self.assertEqual(list(names.items()), [("c", "x"), ("a", "y"), ("b", "z")])
        names["a"] = "x"
        self.assertEqual(str(PATH), "a c : r(a b) s(b c)")


class OperatorsTest(RefusingCase):

    def test_sum(self):
        self.assertEqual(str(PATH + RING), "a c : r(a b) s(b c) t(a c)")
        self.assertEqual(str(RING + PATH), "a c : r(a b) s(b c) t(a c)")
        self.assertEqual(str(PATH.asking("c") + PATH.asking("b", "c", "a")), "c b a : r(a b) s(b c)")
        self.assertEqual(str(PATH + TWICE.asking("c")), "a c : r(a b) r(c b) s(b c)")
        for question in ALL:
            self.assertEqual(question + question, question)

    def test_no_sum(self):
        self.refused(InvalidQuestion, lambda: PATH + Question((("r", ("a",)),), ()))
        self.refused(InvalidQuestion, lambda: Question(EIGHT, ()) + Question((("s", ("a",)),), ()))
        self.refused(InvalidQuestion, lambda: PATH + Question((("t", tuple("defghi")),), ()))
        self.assertEqual(len((PATH + Question((("t", tuple("defgh")),), ())).columns), 8)
        for value in VALUES:
            if not isinstance(value, Question):
                self.refused(TypeError, lambda: PATH + value)
                self.refused(TypeError, lambda: value + PATH)

    def test_in(self):
        self.assertIs(AB in PATH, True)
        self.assertIs(BC in PATH, True)
        for value in VALUES + (("r", ("b", "a")), ("t", ("a", "b")), ["s", ("b", "c")], ("s", ["b", "c"])):
            self.assertIs(value in PATH, isinstance(value, tuple) and value == AB, value)
            self.assertIs(value not in PATH, not (isinstance(value, tuple) and value == AB), value)

    def test_length_and_iteration(self):
        for question in ALL:
            self.assertEqual(len(question), len(question.clauses))
            self.assertEqual(list(question), list(question.clauses))
            self.assertEqual(list(question), list(question))

    def test_equality(self):
        self.assertTrue(PATH == Question((AB, BC), ("a", "c")))
        self.assertFalse(PATH != Question((AB, BC), ("a", "c")))
        for value in VALUES + (PATH.asking("c", "a"), PATH.asking("a"), RING, PATH.clauses, PATH.lines, str(PATH),
                               PATH.without_clause(AB), PATH.retabled({"r": "r", "s": "t"})):
            if value is not PATH:
                for one, other in ((PATH, value), (value, PATH)):
                    self.assertIs(one == other, False)
                    self.assertIs(one != other, True)

    def test_text(self):
        self.assertEqual(str(PATH), "a c : r(a b) s(b c)")
        self.assertEqual(str(RING), ": r(a b) s(b c) t(a c)")
        self.assertEqual(str(Question((("r", ("a",)),), ())), ": r(a)")
        self.assertEqual(str(Question((("r", ("a", "a")),), ("a",))), "a : r(a a)")

    def test_equal_calls(self):
        for question in ALL:
            for name in ("clauses", "asked", "lines", "columns", "tables", "is_plain", "lots", "spread", "full"):
                self.assertEqual(getattr(question, name), getattr(question, name))

    def test_kinds(self):
        for question in ALL:
            for name in ("clauses", "asked", "lines", "columns", "lots"):
                self.assertIs(getattr(question, name).__class__, tuple)
            self.assertIs(question.tables.__class__, dict)
            self.assertIn(question.is_plain, (True, False))
            for made in (question.spread, question.full, question.asking(), question + question):
                self.assertIs(made.__class__, Question)
        self.assertIsNot(STORE.__class__, Question)


if __name__ == "__main__":
    unittest.main()
