"""Point 0.12 and the functions of joinhouse.base.questions on questions that are alike."""

import itertools
import random
import unittest

from joinhouse.base.questions import Question, alikeness, are_alike, is_alikeness
from joinhouse.errors import InvalidQuestion
from tests.samples import PATH, RING, STORE, TWICE, VALUES, RefusingCase

LETTERS = "abcdefgh"


def edges(*pairs):
    """The question without asked columns of some pairs of letters."""
    return Question(tuple(sorted(("e", tuple(pair)) for pair in pairs)), ())


def all_alikenesses(one, other):
    """All renamings of one question to the other, one by one."""
    found = []
    if len(one.columns) == len(other.columns):
        for names in itertools.permutations(other.columns):
            led = dict(zip(one.columns, names))
            if one.renamed(led) == other:
                found.append(led)
    return found


def some_question(chance, letters):
    clauses = set()
    for _ in range(chance.randrange(1, 6)):
        table = chance.choice("rst")
        clauses.add((table, tuple(chance.choices(letters, k={"r": 2, "s": 2, "t": 1}[table]))))
    columns = sorted({column for _, names in clauses for column in names})
    return Question(tuple(sorted(clauses)), tuple(chance.sample(columns, chance.randrange(len(columns) + 1))))


class AlikenessTest(RefusingCase):

    def check_pair(self, one, other):
        """Checks all three functions against a search through all renamings."""
        right = all_alikenesses(one, other)
        self.assertIs(are_alike(one, other), bool(right))
        self.assertIs(are_alike(other, one), bool(right))
        found = alikeness(one, other)
        if not right:
            self.assertIsNone(found)
        else:
            self.assertIn(found, right)
            self.assertEqual(list(found), sorted(found))
            back = alikeness(other, one)
            self.assertTrue(is_alikeness(other, one, back))
        for names in itertools.product(other.columns, repeat=len(one.columns)):
            value = dict(zip(one.columns, names))
            self.assertIs(is_alikeness(one, other, value), value in right)

    def test_random_questions(self):
        chance = random.Random(7)
        for _ in range(150):
            one = some_question(chance, "abc")
            self.check_pair(one, some_question(chance, "abc"))
            names = list(one.columns)
            chance.shuffle(names)
            other = one.renamed(dict(zip(one.columns, names)))
            self.check_pair(one, other)
            self.check_pair(one, other.asking(*reversed(other.asked)))
            self.check_pair(one.asking(), other.asking())

    def test_small_ones(self):
        ones = [edges(*pairs) for many in (1, 2) for pairs in itertools.combinations(
            [a + b for a in "abc" for b in "abc"], many)]
        for one in ones:
            for other in ones[::4]:
                self.check_pair(one, other)

    def test_asked_columns_in_their_order(self):
        self.assertTrue(are_alike(TWICE, TWICE.asking("c")))
        self.assertEqual(alikeness(TWICE, TWICE.asking("c")), {"a": "c", "b": "b", "c": "a"})
        self.assertFalse(are_alike(TWICE, TWICE.asking("b")))
        self.assertFalse(are_alike(TWICE, TWICE.asking()))
        self.assertFalse(are_alike(PATH, PATH.asking("c", "a")))
        self.assertTrue(are_alike(TWICE.asking("a", "c"), TWICE.asking("c", "a")))
        self.assertFalse(are_alike(TWICE.asking("a", "b"), TWICE.asking("b", "a")))
        self.assertFalse(are_alike(TWICE.asking("a", "b"), TWICE.asking("a", "c")))

    def test_tables_as_they_are(self):
        self.assertFalse(are_alike(PATH, PATH.retabled({"r": "s", "s": "r"})))
        self.assertFalse(are_alike(PATH, PATH.retabled({"r": "r", "s": "t"})))
        self.assertFalse(are_alike(edges("ab"), Question((("f", ("a", "b")),), ())))

    def test_a_table_more_or_a_width_changed(self):
        self.assertFalse(are_alike(PATH, RING))
        self.assertFalse(are_alike(PATH.asking(), RING))
        self.assertFalse(are_alike(RING, PATH.asking()))
        self.assertFalse(are_alike(RING, RING.with_clause(("u", ("a",)))))
        wide = Question((("r", ("a", "b", "b")), ("s", ("b", "c"))), ("a", "c"))
        for one, other in ((PATH, wide), (wide, PATH)):
            self.assertIs(are_alike(one, other), False)
            self.assertIsNone(alikeness(one, other))
            self.assertIs(is_alikeness(one, other, {"a": "a", "b": "b", "c": "c"}), False)

    def test_folded_ones_are_not_alike(self):
        for folding in ({"a": "a", "b": "a", "c": "c"}, {"a": "a", "b": "b", "c": "b"}):
            self.assertFalse(are_alike(RING, RING.folded(folding)))
            self.assertFalse(are_alike(RING.folded(folding), RING))
        self.assertFalse(are_alike(edges("ab", "cd"), edges("ab", "bc")))
        self.assertFalse(are_alike(edges("ab", "bc"), edges("ab", "cd")))
        self.assertFalse(are_alike(edges("aa", "bc"), edges("aa", "ab")))

    def test_eight_columns(self):
        ring = edges("ab", "bc", "cd", "de", "ef", "fg", "gh", "ha")
        two = edges("ab", "bc", "cd", "da", "ef", "fg", "gh", "he")
        mixed = edges("ad", "dg", "gb", "be", "eh", "hc", "cf", "fa")
        self.assertTrue(are_alike(ring, mixed))
        self.assertTrue(is_alikeness(ring, mixed, alikeness(ring, mixed)))
        self.assertTrue(is_alikeness(mixed, ring, alikeness(mixed, ring)))
        for one, other in ((ring, two), (two, ring), (mixed, two)):
            self.assertFalse(are_alike(one, other))
        single = Question(tuple(("r", (letter,)) for letter in LETTERS), tuple(LETTERS))
        back = single.asking(*reversed(LETTERS))
        self.assertEqual(alikeness(single, back), dict(zip(LETTERS, reversed(LETTERS))))
        self.assertTrue(are_alike(single.asking(), back.asking()))
        points = [("r", (letter,)) for letter in LETTERS[:7]]
        one = Question(tuple(points + [("s", ("g", "h"))]), ())
        other = Question(tuple(points + [("s", ("h", "g"))]), ())
        self.assertFalse(are_alike(one, other))
        wide = Question((("r", tuple(LETTERS)), ("s", ("a", "b"))), ())
        self.assertTrue(are_alike(wide, wide.renamed(dict(zip(LETTERS, "hgfedcba")))))
        self.assertFalse(are_alike(wide, wide.renamed(dict(zip(LETTERS, "badcfehg"))).without_clause(
            ("s", ("b", "a"))).with_clause(("s", ("a", "b")))))

    def test_no_alikeness(self):
        one, other = PATH, PATH.renamed({"a": "x", "b": "y", "c": "z"})
        self.assertIs(is_alikeness(one, other, {"a": "x", "b": "y", "c": "z"}), True)
        self.assertIs(is_alikeness(one, other, {"c": "z", "b": "y", "a": "x"}), True)
        for value in VALUES + (
            {"x": "a", "y": "b", "z": "c"}, {"a": "x", "b": "y"}, {"a": "x", "b": "y", "c": "z", "d": "w"},
            {"a": "y", "b": "x", "c": "z"}, {"a": "x", "b": "y", "c": "w"}, {"a": "x", "b": "y", "c": "y"},
            {"a": "x", "b": "y", "c": ["z"]}, {"a": "x", "b": "y", "c": None}, {"a": "x", "b": "y", True: "z"},
            (("a", "x"), ("b", "y"), ("c", "z")),
        ):
            self.assertIs(is_alikeness(one, other, value), False, value)

    def test_wrong_questions(self):
        for value in VALUES:
            if not isinstance(value, Question):
                for call in (are_alike, alikeness):
                    self.refused(InvalidQuestion, call, value, PATH)
                    self.refused(InvalidQuestion, call, PATH, value)
                    self.refused(InvalidQuestion, call, value, value)
                self.refused(InvalidQuestion, is_alikeness, value, PATH, {})
                self.refused(InvalidQuestion, is_alikeness, PATH, value, {})
                self.refused(InvalidQuestion, is_alikeness, value, STORE, value)

    def test_a_returned_dict_is_the_callers(self):
        found = alikeness(PATH, PATH)
        found["a"] = "b"
        self.assertEqual(alikeness(PATH, PATH), {"a": "a", "b": "b", "c": "c"})


if __name__ == "__main__":
    unittest.main()
