"""Point 18.4 and the class of joinhouse.text.shell."""

import random
import unittest

from joinhouse.base.questions import Question
from joinhouse.base.readings import count_of, counts
from joinhouse.base.stores import Store, fits
from joinhouse.change.forests import is_forest
from joinhouse.errors import (
    InvalidClause,
    InvalidOperation,
    InvalidQuestion,
    InvalidRow,
    InvalidStore,
    NothingToUndo,
    ParseError,
    Refused,
    TooMany,
    UnknownName,
)
from joinhouse.fold.cores import is_core_of
from joinhouse.order.layers import is_layered, layered_order
from joinhouse.shape.knots import is_knot, knot_of
from joinhouse.shape.reducers import full_reducer, is_full_reducer
from joinhouse.shape.trees import is_join_tree, join_tree
from joinhouse.size.bounds import size_bound
from joinhouse.strike.lines import cheapest_strike, is_line, line_of
from joinhouse.text.shell import Shell
from joinhouse.text.texts import read_knot, read_links, write_question, write_store
from joinhouse.use.bench import Bench
from joinhouse.width.bags import width_of
from tests.brute import asking, shape, some_question, some_store
from tests.samples import LOOP, PATH, RING, SIXTY, STORE, TWICE, VALUES, RefusingCase

NAMES = ("join", "drop", "ask", "put", "take", "shrink", "reduce", "demand", "waive", "undo", "redo", "lines", "pledges", "total",
         "width", "answers", "count", "tree", "reducer", "knot", "core", "forest", "line", "order", "bound", "strike")
ALONE = ("shrink", "reduce", "undo", "redo", "lines", "pledges", "total", "width", "answers", "tree", "reducer", "knot", "core",
         "forest", "line", "order", "bound", "strike")


def shell_of(question, store):
    return Shell(write_question(question), write_store(store))


def word_of(error):
    """The word that a shell tells for an error."""
    words = {InvalidQuestion: "question", InvalidClause: "clause", InvalidRow: "row", InvalidOperation: "operation",
             UnknownName: "unknown", NothingToUndo: "undo"}
    if isinstance(error, TooMany):
        return f"many {error.limit}"
    if isinstance(error, Refused):
        return "refused " + " ".join(str(part) for part in error.pledge)
    return words[error.__class__]


def told(call):
    """The news of a call as a text, or the word of its error; with whether it was no error."""
    try:
        news = call()
    except (InvalidQuestion, InvalidClause, InvalidRow, InvalidOperation, UnknownName, TooMany, NothingToUndo, Refused) as caught:
        return word_of(caught), False
    return (f"from {news[0]} to {news[1]}" if news else "nothing"), True


def some_command(chance, bench):
    """A text and the call of a bench that it stands for, by chance."""
    kind = chance.randrange(8)
    names = chance.choices("abcd", k=chance.choice((1, 2, 2, 2, 3)))
    if kind == 0:
        table = chance.choice("rstx")
        return " ".join(["join", table, *names]), lambda: bench.adjoin((table, tuple(names)))
    if kind == 1:
        table, columns = chance.choice(bench.question.clauses)
        columns = columns if chance.random() < 0.7 else tuple(names)
        return " ".join(["drop", table, *columns]), lambda: bench.drop((table, columns))
    if kind == 2:
        names = names[1:]
        return " ".join(["ask", *names]), lambda: bench.ask(*names)
    if kind in (3, 4):
        table = chance.choice("rstx")
        row = tuple(chance.choices(range(3), k=chance.choice((1, 2, 2, 2))))
        word = "put" if kind == 3 else "take"
        return " ".join([word, table, *map(str, row)]), lambda: getattr(bench, word)(table, row)
    if kind == 5:
        word = chance.choice(("shrink", "reduce", "undo", "redo"))
        return word, getattr(bench, word)
    pledge = chance.choice((("plain",), ("tree",), ("core",), ("forest",), ("line",), ("answered",), ("width", chance.randint(0, 9)),
                            ("least", max(0, bench.total - chance.randint(-1, 2))), ("most", bench.total + chance.randint(0, 2)),
                            ("key", chance.choice("rx"), chance.randint(0, 2), chance.randint(0, 8))))
    word = "demand" if chance.random() < 0.6 else "waive"
    return " ".join([word, *map(str, pledge)]), lambda: getattr(bench, word)(pledge)


class ShellsTest(RefusingCase):

    def check_queries(self, shell, bench):
        """Checks what a shell tells of its bench."""
        question, store = bench.question, bench.store
        self.assertEqual(shell("lines"), "; ".join([*question.lines, *store.lines]))
        self.assertEqual(shell("pledges"), "; ".join(" ".join(map(str, pledge)) for pledge in bench.pledges) or "nothing")
        self.assertEqual((shell("total"), shell("width")), (str(bench.total), str(width_of(question))))
        found = counts(question, store)
        self.assertEqual(shell("answers"), "; ".join(
            f"{' '.join(map(str, answer))}: {found[answer]}" for answer in found) or "nothing")
        for answer in ((1,), (1, 2), (0, 0), (0, 1, 2)):
            self.assertEqual(shell("count " + " ".join(map(str, answer))), str(count_of(question, store, answer)))
        self.check_papers(shell, question)
        if question.is_plain:
            one, other = size_bound(question, {name: (1, 1) for name in question.tables}, ())
            self.assertEqual(shell("bound"), f"{one}/{other}")
            self.assertEqual(shell("strike"),
                             str(len(cheapest_strike(question, store))) if line_of(question) else "operation")
        else:
            self.assertEqual([shell(word) for word in ("bound", "strike", "reducer")], ["operation"] * 3)
        bare = Question(question.clauses, ())
        self.assertEqual(bare.columns, question.columns)

    def check_papers(self, shell, question):
        tree = shell("tree")
        self.assertEqual(tree == "none", join_tree(question) is None)
        self.assertTrue(tree == "none" or is_join_tree(question, read_links(tree)))
        if question.is_plain:
            steps = shell("reducer")
            self.assertEqual(steps == "none", full_reducer(question) is None)
            if steps != "none":
                self.assertIs(is_full_reducer(question, read_links(steps)), True)
                self.assertEqual(len(read_links(steps)), 2 * len(question) - 2)
        knot = shell("knot")
        self.assertEqual(knot == "none", knot_of(question) is None)
        self.assertTrue(knot == "none" or is_knot(question, read_knot(knot)))
        line = shell("line")
        self.assertEqual(line == "none", line_of(question) is None)
        self.assertTrue(line == "none" or is_line(question, tuple(map(int, line.split(" ")))))
        order = shell("order")
        self.assertEqual(order == "none", layered_order(question) is None)
        self.assertTrue(order == "none" or is_layered(question, tuple(order.split(" "))))
        forest = shell("forest")
        if forest != "none":
            pairs = [pair.split(" under ") for pair in forest.split("; ")]
            self.assertIs(is_forest(question, tuple((name, *(above or [None])) for name, *above in pairs)), True)
        self.assertTrue(self.is_core_text(question, shell("core")))

    def is_core_text(self, question, text):
        """Whether a text tells a core of a question as `str` does."""
        for many in range(1, 2 ** len(question)):
            clauses = tuple(clause for at, clause in enumerate(question.clauses) if many >> at & 1)
            columns = {column for _, names in clauses for column in names}
            if set(question.asked) <= columns and str(Question(clauses, question.asked)) == text:
                return is_core_of(question, Question(clauses, question.asked))
        return False

    def test_beside_a_bench(self):
        chance = random.Random(1)
        words = set()
        for _ in range(25):
            while True:
                question, store = some_question(chance, letters="abc", most=3), some_store(chance, most=4, values=3, great=0)
                if fits(store, question):
                    break
            bench, shell = Bench(question, store), shell_of(question, store)
            good = 0
            for at in range(30):
                command, call = some_command(chance, bench)
                twin = shell.bench()
                answer = shell(command) if at % 2 else shell.answer(command)
                if command == "shrink" and answer.split(" ")[0] in ("from", "nothing"):
                    # Any core is right: the bench beside it takes the same one.
                    bench = shell.bench()
                    good += 1
                    self.assertTrue(is_core_of(twin.question, bench.question))
                    news = f"from {twin.total} to {bench.total}" if twin.total != bench.total else "nothing"
                    self.assertEqual(answer, news)
                    continue
                right, well = told(call)
                self.assertEqual(answer, right, (command, str(twin), twin.question.lines))
                good += well
                words.add(answer.split(" ")[0])
                self.assertEqual(shell.bench(), bench)
                self.assertEqual(len(shell), good)
            self.check_queries(shell, bench)
            self.assertEqual(shell.bench(), bench)
        self.assertEqual(words, {"from", "nothing", "question", "clause", "row", "operation", "unknown", "undo", "refused"})

    def test_queries(self):
        chance = random.Random(2)
        for question in (PATH, RING, TWICE, LOOP, asking("r a"), shape("aab", "b"), PATH.full, RING.full, shape("ab", "c")):
            for _ in range(2):
                store = Store(question.tables, {
                    name: tuple({tuple(chance.choices(range(3), k=width)) for _ in range(4)})
                    for name, width in question.tables.items()
                })
                self.check_queries(shell_of(question, store), Bench(question, store))

    def test_shrink(self):
        shell = shell_of(TWICE, STORE)
        self.assertEqual([shell(word) for word in ("shrink", "shrink", "undo", "undo", "redo")],
                         ["from 5 to 3", "nothing", "nothing", "from 3 to 5", "from 5 to 3"])
        self.assertIs(is_core_of(TWICE, shell.bench().question), True)

    def test_single_answers(self):
        shell = shell_of(asking("r a b"), Store({"r": 2}, {}))
        self.assertEqual([shell(word) for word in ("tree", "reducer", "answers", "pledges", "line", "forest", "bound", "strike")],
                         ["-", "-", "nothing", "nothing", "0", shell("forest"), "0/1", "0"])
        self.assertIn(shell("forest"), ("a; b under a", "a under b; b"))
        self.assertEqual((shell("put r 1 2"), shell("answers"), shell("count 1"), shell("strike")), ("from 0 to 1", ": 1", "0", "1"))
        self.assertEqual(shell("core"), ": r(a b)")
        loop = shell_of(LOOP.full, Store(LOOP.tables, {}))
        self.assertEqual((loop("knot"), loop("bound"), loop("tree"), loop("forest")), ("ring a b c d", "2/1", "none", "none"))
        ring = shell_of(RING.full, STORE)
        self.assertEqual((ring("knot"), ring("bound"), ring("line"), ring("order"), ring("reducer"), ring("strike")),
                         ("crown a b c", "3/2", "none", "none", "none", "operation"))
        self.assertEqual(ring("answers"), "4 3 6: 1")


class ErrorsTest(RefusingCase):

    def setUp(self):
        self.shell = shell_of(PATH, STORE)

    def refuses(self, word, *commands):
        """Checks the word of an error, and that nothing is changed."""
        before, many = self.shell.bench(), len(self.shell)
        for command in commands:
            self.assertEqual(self.shell(command), word, command)
            self.assertEqual(self.shell.answer(command), word, command)
        self.assertEqual((self.shell.bench(), len(self.shell)), (before, many))

    def test_what(self):
        for word in NAMES:
            self.refuses("what", word + " ", " " + word, word.upper(), word + "\n", word + "  a", word + " A", word + " -1", word + "x",
                         word + " a  b", word + " a ", word + "\ta", word + " 01", word + " a 1 b")
        for word in ALONE:
            self.refuses("what", word + " a", word + " 1", word + " plain", word + " r 1 2")
        self.refuses("what", "join", "drop", "join r", "drop r", "put", "take", "put r", "take r", "put 1 2", "take 1", "count",
                     "count a", "demand", "waive", "join r 1", "drop r a 1", "ask 1", "put r a", "take r 1 a", "put r 1,2",
                     "count " + " ".join("123456789"), "put r " + " ".join("123456789"), "put r 00", "take r 01 2", "count 1 02",
                     "put r " + "1" * 61, "count +1", "count 1.0", "count 1_0", "put r \u0661 2", "join abcdefghi a",
                     "join r abcdefghi", "ask a,b", "", " ", "\n", "quit", "help", "query", "total\ntotal", "none")
        self.refuses("what", *[value for value in VALUES if value != "clause r a b"], "clause r a b", "row r 1 2", b"total", 1.5)

    def test_pledges_of_the_wrong_form(self):
        for word in ("demand", "waive"):
            self.refuses("what", *[word + " " + rest for rest in (
                "plain 1", "tree a", "width", "width a", "width -1", "width 1 2", "width 01", "least", "least a", "most",
                "most 1 2", "answered 1", "key", "key r", "key r 0", "key r 0 1 2", "key 0 1 2", "key r a b", "key R 0 1", "key r 0 -1",
                "key abcdefghi 0 1", "Plain", "knot", "plain ", " plain", "line\n", "least " + "1" * 61, "key r  0 1")])
            # Texts of pledges that are none.
            self.refuses("operation", *[word + " " + rest for rest in ("width 8", "width 99", "key r 0 0", "key r 0 8", "key r 8 0")])
        self.refuses("operation", "waive plain", "waive least 5", "waive key r 0 1")
        self.assertEqual(self.shell("demand least " + "0"), "nothing")
        self.refuses("refused least " + "9" * 60, "demand least " + "9" * 60)
        self.assertEqual(self.shell("demand most " + "9" * 60), "nothing")
        self.assertEqual(self.shell.bench().pledges, (("least", 0), ("most", SIXTY)))
        self.refuses("operation", "demand least 0")
        self.refuses("refused key x 0 1", "demand key x 0 1")
        self.refuses("refused key t 0 2", "demand key t 0 2")

    def test_words_of_errors(self):
        self.refuses("clause", "join r a b", "drop r a c", "drop x a", "join r " + " ".join("abcdefghi"), "drop r " + "a " * 8 + "a")
        self.refuses("question", "join r a", "ask a a", "ask a c a", "join z d e f g h i")
        self.refuses("operation", "join t a", "join z a b")
        self.refuses("unknown", "ask d", "ask a a d", "put x 1", "take x 1 2", "ask a b c d")
        self.refuses("row", "put r 1 2", "put r 1", "put r 1 2 3", "take r 9 9", "take r 1", "put t 1 2 3 4 5 6 7 8")
        self.refuses("undo", "undo", "redo")
        self.shell("demand tree")
        self.shell("demand least 5")
        self.refuses("refused tree", "join t a c")
        self.refuses("refused least 5", "take r 1 2", "drop s b c")
        self.refuses("undo", "redo")
        self.assertEqual([self.shell("undo"), self.shell("undo")], ["nothing", "nothing"])
        self.refuses("undo", "undo")
        self.assertEqual(self.shell("redo"), "nothing")
        alone = shell_of(asking("r a"), Store({"r": 1}, {}))
        self.assertEqual(alone("drop r a"), "question")

    def test_too_many(self):
        rows = tuple((at, 0) for at in range(1000))
        wide = Store({"r": 2, "s": 2}, {"r": rows, "s": tuple((0, at) for at in range(1000))})
        shell = shell_of(PATH, wide)
        self.assertEqual([shell(word) for word in ("total", "answers", "count 1 1", "count 1", "strike")],
                         ["1000000", "many 20000", "many 20000", "many 20000", "1000"])
        self.assertEqual(len(shell), 2)
        full = shell_of(PATH, Store({"r": 2, "s": 2}, {"r": tuple((at, 0) for at in range(3000))}))
        self.assertEqual((full("put s 0 0"), full("total"), len(full)), ("many 3000", "0", 1))
        for many in range(10):
            self.assertEqual(self.shell(f"demand least {many % 6}" if many < 6 else f"demand most {many}"), "nothing")
        self.refuses("many 10", "demand plain", "demand least 9")
        square = shell_of(LOOP.without_clause(("u", ("a", "d"))), Store(LOOP.tables, {
            name: tuple((one, other) for one in range(13) for other in range(13)) for name in LOOP.tables}))
        self.assertEqual((square("total"), square("join u a d")), ("28561", "many 20000"))


class ShellObjectsTest(RefusingCase):

    def test_the_number_of_commands(self):
        shell = shell_of(PATH, STORE)
        self.assertEqual(len(shell), 0)
        for at, command in enumerate(("total", "total", "put s 2 6", "undo", "redo", "ask", "lines", "knot", "answers", "pledges")):
            shell(command)
            self.assertEqual(len(shell), at + 1)
        for command in ("what", "put s 2 6", "redo", "ask d", None, "total "):
            shell(command)
            self.assertEqual(len(shell), 10)
        shell.answer("tree")
        self.assertEqual(len(shell), 11)

    def test_twins_of_the_bench(self):
        shell = shell_of(PATH, STORE)
        self.assertEqual(shell.bench(), Bench(PATH, STORE))
        shell("put s 2 6")
        bench = shell.bench()
        self.assertEqual((bench.total, bench.undo()), (6, (6, 5)))
        self.assertEqual(shell("total"), "6")
        bench.demand(("plain",))
        self.assertEqual(shell("pledges"), "nothing")
        shell("undo")
        self.assertEqual((shell.bench().total, shell.bench().redo(), shell("redo")), (5, (5, 6), "from 5 to 6"))

    def test_texts_that_are_none(self):
        good, store = write_question(PATH), write_store(STORE)
        for value in VALUES:
            if not isinstance(value, str):
                self.refused(ParseError, Shell, value, value, keeps=("number", None))
                self.refused(ParseError, Shell, good, value, keeps=("number", None))
        self.refused(ParseError, Shell, "asked\nasked", None, keeps=("number", 1))
        self.refused(InvalidQuestion, Shell, "asked", None)
        self.refused(ParseError, Shell, good, "row r 1 2\nrow s", keeps=("number", 1))
        self.refused(InvalidStore, Shell, good, "\n".join(f"row r {at}" for at in range(3001)))
        self.refused(InvalidOperation, Shell, good, "row r 1 2")
        full = "\n".join(f"row {name} {one} {other}" for name in "rst" for one in range(28) for other in range(28))
        self.refused(TooMany, Shell, write_question(RING), full, keeps=("limit", 20000))
        self.assertEqual(Shell(good, store)("total"), "5")
        with self.assertRaises(TypeError):
            list(Shell(good, store))


if __name__ == "__main__":
    unittest.main()
