"""Points 0.20, 13.4, 13.5 and the functions of joinhouse.width.escapes."""

import itertools
import random
import unittest

from joinhouse.base.questions import Question
from joinhouse.errors import InvalidNumber, InvalidOperation, InvalidQuestion
from joinhouse.width.bags import bag_tree, is_bag_tree, width_by, width_of
from joinhouse.width.escapes import escape_table, flight, is_escape_table, is_width_paper, lots_behind, width_paper
from tests.brute import asking, crown_of, ring_of, shape, some_question, some_shape
from tests.samples import LOOP, PATH, RING, TWICE, VALUES, RefusingCase
from tests.test_layers import neighbours

TABLE = {(): ("a", "b", "c"), ("a",): ("b", "c"), ("b",): ("c",), ("c",): ("a", "b")}
SEEKERS = (("b",), ("c",), ())


def lots_by_words(question, held):
    """The lots behind some columns, by a search along neighbours."""
    near = neighbours(question)
    left = set(question.columns) - set(held)
    found = []
    while left:
        lot = {min(left)}
        while True:
            more = lot | {other for column in lot for other in near[column] if other not in held}
            if more == lot:
                break
            lot = more
        found.append(tuple(sorted(lot)))
        left -= lot
    return tuple(sorted(found))


def held_sets(question, width):
    """All ascending tuples of at most one more than `width` columns."""
    return [held for many in range(min(width + 1, len(question.columns)) + 1)
            for held in itertools.combinations(question.columns, many)]


def is_escape_by_words(question, width, table):
    """Whether a dict is an escape table, as point 13.4 tells it."""
    held = held_sets(question, width)
    if set(table) != set(held) or len(table) != len(held):
        return False
    if not all(table[some] in lots_by_words(question, some) for some in held):
        return False
    return all(set(table[tuple(sorted((*some, column)))]) <= set(table[some])
               for some in held if len(some) <= width for column in question.columns if column not in some)


class LotsTest(RefusingCase):

    def test_against_a_search(self):
        chance = random.Random(1)
        for at in range(80):
            question = some_question(chance, letters="abcd") if at % 3 == 0 else some_shape(chance, letters="abcdef")
            for many in range(len(question.columns) + 1):
                for held in itertools.combinations(question.columns, many):
                    self.assertEqual(lots_behind(question, held), lots_by_words(question, held))

    def test_examples(self):
        self.assertEqual(lots_behind(PATH, ()), (("a", "b", "c"),))
        self.assertEqual(lots_behind(shape("ah", "bg", "c"), ()), (("a", "h"), ("b", "g"), ("c",)))
        self.assertEqual(lots_behind(LOOP, ("a", "c")), (("b",), ("d",)))
        self.assertEqual(lots_behind(PATH, ("a", "b", "c")), ())

    def test_wrong_columns(self):
        for value in (*VALUES, ("b", "a"), ("a", "a"), ("a", "d"), ["a"], "a", ("a", None), ("a", ["b"]), {"a": "b"}):
            if value not in ((), ("a",), ("a", "b")):
                self.refused(InvalidOperation, lots_behind, PATH, value)


class EscapeTablesTest(RefusingCase):

    def check(self, question):
        """Checks for all widths that there is either a bag tree or an escape table."""
        least = width_of(question)
        for width in range(8):
            table = escape_table(question, width)
            paper = width_paper(question, width)
            self.assertIs(is_width_paper(question, width, paper), True)
            if width < least:
                self.assertTrue(is_escape_by_words(question, width, table))
                self.assertEqual(list(table), sorted(table))
                self.assertIs(is_escape_table(question, width, table), True)
                self.assertEqual(paper[0], "escape")
                self.assertTrue(is_escape_by_words(question, width, paper[1]))
                turned = {held: table[held] for held in reversed(list(table))}
                self.assertIs(is_escape_table(question, width, turned), True)
                self.assertIs(is_escape_table(question, width + 1, table), False)
                self.check_flights(question, width, table)
            else:
                self.assertIsNone(table)
                self.assertEqual(paper[0], "bags")
                self.assertLessEqual(width_by(question, paper[1]), width)
        return least

    def check_flights(self, question, width, table):
        chance = random.Random(width)
        seekers = tuple(chance.choice(held_sets(question, width)) for _ in range(12))
        lots = flight(question, width, table, seekers)
        self.assertEqual(lots, tuple(table[held] for held in seekers))
        for one, other, here, there in zip(seekers, seekers[1:], lots, lots[1:]):
            both = tuple(column for column in one if column in other)
            self.assertTrue(any(set(here) | set(there) <= set(lot) for lot in lots_behind(question, both)))

    def test_by_chance(self):
        chance = random.Random(2)
        seen = set()
        for at in range(150):
            letters, most, wide = (("abcd", 5, 3), ("abcdef", 8, 2), ("abcdefgh", 8, 3))[at % 3]
            seen.add(self.check(some_shape(chance, letters=letters, most=most, wide=wide, many=most if at % 2 else None)))
        self.assertLessEqual({0, 1, 2, 3}, seen)
        for _ in range(20):
            self.check(some_question(chance, letters="abcde"))

    def test_known_questions(self):
        for question in (PATH, RING, LOOP, TWICE, shape("a"), shape("abcdefgh"), ring_of("abcdefgh"), crown_of("abcdefgh"),
                         crown_of("abcde"), shape(*"abcdefgh"), shape("abc", "bcd", "cde", "efg", "fgh"),
                         shape("abcd", "efgh", "ae", "bf", "cg", "dh"), shape("abc", "de", "df", "ef", "gh")):
            self.check(question)

    def test_a_narrow_choice(self):
        # Two rings that share a column: what is given up on one side must not open both.
        for question in (shape("ab", "bc", "ca", "cd", "de", "ec"), shape("abc", "cde", "efa", "bdf"),
                         shape("ab", "bc", "cd", "da", "de", "ef", "fg", "gd"), shape("ab", "cd", "ef", "gh", "aceg", "bdfh")):
            self.check(question)

    def test_all_tables(self):
        for question, width in ((PATH, 0), (RING, 0), (RING, 1), (shape("ab", "cd"), 0), (shape("ab", "bc", "cd"), 0),
                                (shape("a", "b"), 0), (TWICE, 0)):
            held = held_sets(question, width)
            found = 0
            for lots in itertools.product(*[lots_by_words(question, some) or [()] for some in held]):
                table = dict(zip(held, lots))
                right = is_escape_by_words(question, width, table)
                self.assertIs(is_escape_table(question, width, table), right)
                self.assertIs(is_width_paper(question, width, ("escape", table)), right)
                found += right
            self.assertEqual(found > 0, width < width_of(question))

    def test_an_entry_changed(self):
        chance = random.Random(3)
        seen = [0, 0]
        for question, width in ((RING, 1), (LOOP, 1), (LOOP, 0), (crown_of("abcd"), 2), (crown_of("abcd"), 1),
                                (shape("abc", "cd", "de"), 1), (shape("ab", "bc", "cd", "de"), 0)):
            table = escape_table(question, width)
            for held in table:
                for lot in (*lots_by_words(question, held), (), ("a",), table[held][1:], (*table[held], "z")):
                    changed = {**table, held: lot}
                    right = is_escape_by_words(question, width, changed)
                    self.assertIs(is_escape_table(question, width, changed), right)
                    seen[right] += 1
                less = {key: table[key] for key in table if key != held}
                self.assertIs(is_escape_table(question, width, less), False)
                self.assertIs(is_escape_table(question, width, {**less, ("q",): table[held]}), False)
                for value in chance.sample(VALUES, 10):
                    changed = {**table, held: value}
                    right = value in list(lots_by_words(question, held)) and is_escape_by_words(question, width, changed)
                    self.assertIs(is_escape_table(question, width, changed), right)
                self.assertIs(is_escape_table(question, width, {**table, held: list(table[held])}), False)
        self.assertGreater(min(seen), 20)

    def test_no_tables(self):
        for value in (*VALUES, tuple(TABLE.items()), list(TABLE), {**TABLE, ("d",): ("a",)}, {**TABLE, ("a", "b"): ("c",)},
                      {**TABLE, True: ("a",)}, {**TABLE, ("a",): ("c", "b")}, {**TABLE, ("a",): ("b", True)},
                      {**TABLE, ("b",): ("a", "c")}, {**TABLE, (): ("a", "b")}, {**TABLE, "a": ("b", "c")}):
            self.assertIs(is_escape_table(PATH, 0, value), False, value)
            self.refused(InvalidOperation, flight, PATH, 0, value, SEEKERS)
            self.refused(InvalidOperation, flight, PATH, 0, value, value)
        self.assertIs(is_escape_table(PATH, 0, TABLE), True)
        self.assertIs(is_escape_table(PATH, 0, {**TABLE, ("b",): ("a",)}), True)
        self.assertIs(is_escape_table(PATH, 1, TABLE), False)

    def test_flights(self):
        self.assertEqual(flight(PATH, 0, TABLE, SEEKERS), (("c",), ("a", "b"), ("a", "b", "c")))
        self.assertEqual(flight(PATH, 0, TABLE, ()), ())
        self.assertEqual(flight(PATH, 0, TABLE, (("a",),) * 50), (("b", "c"),) * 50)
        for seekers in (*VALUES, (("a", "b"),), (("d",),), (("b",), ["c"]), [("b",)], ("b",), (("b",), None), (("b", "a"),),
                        (("a", "a"),), (("b",), "c"), (("b",), (True,))):
            if seekers != ():
                self.refused(InvalidOperation, flight, PATH, 0, TABLE, seekers)
        two = escape_table(RING, 1)
        self.assertEqual(flight(RING, 1, two, (("a", "b"), ("b", "c"))), (("c",), ("a",)))
        self.refused(InvalidOperation, flight, RING, 1, two, (("b", "a"),))
        self.refused(InvalidOperation, flight, RING, 1, two, (("a", "b", "c"),))


class WidthPapersTest(RefusingCase):

    def test_bag_trees(self):
        whole = ((("a", "b", "c"),), ())
        tree = ((("a", "b"), ("b", "c")), ((0, 1),))
        for width in range(8):
            self.assertIs(is_width_paper(PATH, width, ("bags", tree)), width >= 1)
            self.assertIs(is_width_paper(PATH, width, ("bags", whole)), width >= 2)
            self.assertIs(is_width_paper(RING, width, ("bags", whole)), width >= 2)
            self.assertIs(is_width_paper(RING, width, ("bags", tree)), False)
        self.assertTrue(is_bag_tree(PATH, tree))

    def test_no_papers(self):
        for value in (*VALUES, ("escape", bag_tree(PATH)), ("bags", TABLE), ("bags",), ("escape", TABLE, ()), ["escape", TABLE],
                      TABLE, bag_tree(PATH), (None, TABLE), ("tree", bag_tree(PATH)), (["bags"], bag_tree(PATH)),
                      ("escape", tuple(TABLE.items()))):
            for width in (0, 1, 7):
                self.assertIs(is_width_paper(PATH, width, value), False, value)
        self.assertIs(is_width_paper(PATH, 0, ("escape", TABLE)), True)
        self.assertIs(is_width_paper(PATH, 1, ("escape", TABLE)), False)
        self.assertIs(is_width_paper(PATH, 7, ("bags", bag_tree(PATH))), True)


class RefusedCallsTest(RefusingCase):

    def test_questions_and_widths(self):
        for value in VALUES:
            if not isinstance(value, Question):
                self.refused(InvalidQuestion, lots_behind, value, value)
                for function in (escape_table, width_paper):
                    self.refused(InvalidQuestion, function, value, 1)
                    self.refused(InvalidQuestion, function, value, value)
                for function in (is_escape_table, is_width_paper):
                    self.refused(InvalidQuestion, function, value, value, value)
                self.refused(InvalidQuestion, flight, value, value, value, value)
            if value.__class__ is not int or not 0 <= value <= 7:
                for function in (escape_table, width_paper):
                    self.refused(InvalidNumber, function, PATH, value, keeps=("value", value))
                for function in (is_escape_table, is_width_paper):
                    self.refused(InvalidNumber, function, PATH, value, TABLE, keeps=("value", value))
                    self.refused(InvalidNumber, function, PATH, value, value, keeps=("value", value))
                self.refused(InvalidNumber, flight, PATH, value, TABLE, SEEKERS, keeps=("value", value))
                self.refused(InvalidNumber, flight, PATH, value, value, value, keeps=("value", value))
        for value in (-1, 8, True, False):
            self.refused(InvalidNumber, escape_table, PATH, value, keeps=("value", value))
        self.assertIsNone(escape_table(PATH, 7))
        self.assertEqual(width_paper(asking("r a b"), 1), ("bags", bag_tree(asking("r a b"))))


if __name__ == "__main__":
    unittest.main()
