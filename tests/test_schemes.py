"""Points 15.1 to 15.3: the class and the functions of joinhouse.split.rules."""

import itertools
import random
import unittest

from joinhouse.errors import (
    InvalidOperation,
    InvalidRow,
    InvalidRule,
    InvalidScheme,
    ParseError,
    UnknownName,
)
from joinhouse.split.rules import (
    Scheme,
    closure,
    decides,
    derivation,
    follows,
    is_derivation,
    is_parting_pair,
    keeps,
    least_keys,
    parting_pair,
)
from tests.brute import all_sides, some_rule, some_scheme
from tests.samples import PATH, SIXTY, SIXTY_ONE, STORE, VALUES, RefusingCase

SCHEME = Scheme.from_lines("columns a b c d", "rule a -> b", "rule b c -> d")
LOOSE = Scheme(("a", "b"), ())
CONSTANT = Scheme(("a", "b", "c"), (((), ("c",)), (("a",), ("b",))))
LINES = ("columns a b c d", "rule a -> b", "rule b c -> d")


def keeps_by_words(scheme, rows, rule):
    """Whether all rows with equal values on the left have equal ones on the right."""
    left, right = [[scheme.columns.index(column) for column in side] for side in rule]
    return all([one[at] for at in right] == [other[at] for at in right]
               for one in rows for other in rows if [one[at] for at in left] == [other[at] for at in left])


def all_pairs(scheme):
    """All pairs of rows of 0 and 1 of which the first one is 0 throughout: they tell what rules can tell."""
    many = len(scheme.columns)
    return [((0,) * many, row) for row in itertools.product((0, 1), repeat=many)]


def decided_by_search(scheme, columns):
    """All columns that some columns decide in each pair of rows that keeps the rules."""
    pairs = [pair for pair in all_pairs(scheme) if all(keeps_by_words(scheme, pair, rule) for rule in scheme.rules)]
    return tuple(column for column in scheme.columns
                 if all(keeps_by_words(scheme, pair, (columns, (column,))) for pair in pairs))


def is_derivation_by_words(scheme, rule, indices):
    known = set(rule[0])
    for at in indices:
        if not set(scheme.rules[at][0]) <= known:
            return False
        known |= set(scheme.rules[at][1])
    return len(set(indices)) == len(indices) and set(rule[1]) <= known


class SchemesTest(RefusingCase):

    def test_what_is_kept(self):
        self.assertEqual(SCHEME.columns, ("a", "b", "c", "d"))
        self.assertEqual(SCHEME.rules, ((("a",), ("b",)), (("b", "c"), ("d",))))
        self.assertEqual(SCHEME.lines, LINES)
        self.assertEqual(CONSTANT.lines, ("columns a b c", "rule -> c", "rule a -> b"))
        self.assertEqual((str(SCHEME), len(SCHEME), list(SCHEME)), ("scheme of 4 columns, 2 rules", 2, list(SCHEME.rules)))
        self.assertEqual((str(LOOSE), len(LOOSE), list(LOOSE)), ("scheme of 2 columns, 0 rules", 0, []))
        self.assertEqual(str(Scheme(("a",), ((("a",), ("a",)),))), "scheme of 1 columns, 1 rules")

    def test_wrong_columns(self):
        nine = tuple("abcdefghi")
        for value in (*VALUES, nine, ("b", "a"), ("a", "a"), ["a"], "a", ("A",), ("abcdefghi",), ("a", None), (("a",),)):
            if value not in (("a",), ("a", "b")):
                self.refused(InvalidScheme, Scheme, value, ())
                self.refused(InvalidScheme, Scheme, value, value)
        for value in (("a",), ("a", "b"), nine[:8], ("abcdefgh",)):
            self.assertEqual(Scheme(value, ()).columns, value)

    def test_wrong_rules(self):
        rules = tuple(sorted((left, right) for left, right in itertools.product((("a",), ("b",), ("c",), ()),
                                                                                (("a",), ("b",), ("c",), ("a", "b")))))
        columns = ("a", "b", "c")
        self.assertEqual(len(Scheme(columns, rules[:12])), 12)
        bent = (
            rules[:13], rules[1::-1], (rules[0], rules[0]), list(rules[:2]), ((("a",), ()),), (((), ()),), (("a", ("b",)),),
            ((("a",), "b"),), ((("a",), ["b"]),), ((["a"], ("b",)),), ([("a",), ("b",)],), ((("b", "a"), ("c",)),),
            ((("a", "a"), ("c",)),), ((("a",), ("c", "b")),), ((("a",), ("b", "b")),), ((("d",), ("a",)),),
            ((("a",), ("d",)),), ((("a",), ("b",), ("c",)),), ((("a",),),), (("a",), ("b",)), ((("a",), (None,)),),
            ((("a",), ("b",)), None), ((True, ("b",)),), ((("a",), 1),),
        )
        for value in (*bent, *[value for value in VALUES if value != ()]):
            self.refused(InvalidScheme, Scheme, columns, value)
        self.assertEqual(len(Scheme(columns, (((), ("a",)), (("a", "b"), ("a", "b", "c"))))), 2)

    def test_lines_in_any_order(self):
        for scheme in (SCHEME, CONSTANT, LOOSE):
            for lines in itertools.permutations(scheme.lines):
                self.assertEqual(Scheme.from_lines(*lines), scheme)

    def test_lines_that_are_none(self):
        bent = (
            "columns", "columns ", "columns b a", "columns a a", "columns a  b", " columns a", "columns a ", "Columns a",
            "columns A", "columns a1", "columns a\n", "column a", "columns abcdefghi", "columns a -> b", "rule", "rule ->",
            "rule a ->", "rule a -> ", "rule  -> c", "rule a b", "rule a -> b -> c", "rule a->b", "rule a -> b b",
            "rule b a -> c", "rule a a -> b", "rule a -> c b", "rule a  -> b", "rule a ->  b", "rule A -> b", "rule -> A",
            "rule a - > b", "rule a => b", "", " ", "a -> b", "rule a -> b ", " rule a -> b", "rule a -> b\n", "rule\ta -> b",
            "rule -> -> c", "-> c", "asked a", "clause r a b",
        )
        for line in (*bent, *[value for value in VALUES if value not in ("a", "r")]):
            self.refused(ParseError, Scheme.from_lines, line, keeps=("number", 0))
            self.refused(ParseError, Scheme.from_lines, *LINES, line, keeps=("number", 3))
            self.refused(ParseError, Scheme.from_lines, LINES[0], line, LINES[0], None, keeps=("number", 1))

    def test_lines_told_again(self):
        for at in range(3):
            self.refused(ParseError, Scheme.from_lines, *LINES, LINES[at], keeps=("number", 3))
            self.refused(ParseError, Scheme.from_lines, LINES[at], LINES[at], *LINES, keeps=("number", 1))
        # Columns again, also other ones.
        self.refused(ParseError, Scheme.from_lines, "columns a", "columns b", keeps=("number", 1))

    def test_lines_of_no_scheme(self):
        self.refused(InvalidScheme, Scheme.from_lines)
        self.refused(InvalidScheme, Scheme.from_lines, "rule a -> b")
        self.refused(InvalidScheme, Scheme.from_lines, "columns a", "rule a -> b")
        self.refused(InvalidScheme, Scheme.from_lines, "columns a b", "rule c -> b")
        self.refused(InvalidScheme, Scheme.from_lines, "columns a b c d e f g h i")
        self.refused(InvalidScheme, Scheme.from_lines, "columns a", "rule a b c d e f g h i -> a")
        rules = [f"rule {left} -> {right}" for left in "abcd" for right in "abcd"][:13]
        self.refused(InvalidScheme, Scheme.from_lines, "columns a b c d", *rules)
        self.assertEqual(len(Scheme.from_lines("columns a b c d", *rules[:12])), 12)
        # What is no line is told first.
        self.refused(ParseError, Scheme.from_lines, "columns a", "rule a -> b", "rule", keeps=("number", 2))

    def test_with_and_without_rules(self):
        rule = (("d",), ("a", "c"))
        more = SCHEME.with_rule(rule)
        self.assertEqual(more.rules, (*SCHEME.rules, rule))
        self.assertEqual(more.without_rule(rule), SCHEME)
        self.assertEqual(SCHEME.with_rule(((), ("a",))).rules[0], ((), ("a",)))
        for value in (*VALUES, (("a",), ()), (("e",), ("a",)), (("b", "a"), ("c",)), ("a", ("b",)), [("a",), ("b",)],
                      (["a"], ("b",)), (("a",), ("b",), ())):
            self.refused(InvalidRule, SCHEME.with_rule, value)
            self.refused(InvalidRule, SCHEME.without_rule, value)
        self.refused(InvalidRule, SCHEME.with_rule, SCHEME.rules[0])
        self.refused(InvalidRule, SCHEME.without_rule, rule)
        full = Scheme(("a", "b", "c", "d"), tuple(sorted(((one,), (other,)) for one in "abcd" for other in "abcd"))[:12])
        self.refused(InvalidScheme, full.with_rule, (("d",), ("d",)))
        self.refused(InvalidRule, full.with_rule, full.rules[11])
        self.refused(InvalidRule, full.with_rule, None)
        self.assertEqual(len(full.without_rule(full.rules[0])), 11)
        self.assertEqual(len(full), 12)

    def test_renamed(self):
        names = {"a": "d", "b": "x", "c": "b", "d": "a"}
        told = SCHEME.renamed(names)
        self.assertEqual(told.lines, ("columns a b d x", "rule b x -> a", "rule d -> x"))
        self.assertEqual(told.renamed({new: old for old, new in names.items()}), SCHEME)
        for value in (*VALUES, {"a": "d", "b": "x", "c": "b"}, {**names, "e": "y"}, {**names, "a": "x"}, {**names, "a": "X"},
                      {**names, "a": None}, {**names, "a": ["d"]}, tuple(names.items())):
            self.refused(InvalidOperation, SCHEME.renamed, value)

    def test_members_and_equality(self):
        for rule in SCHEME.rules:
            self.assertIs(rule in SCHEME, True)
            self.assertIs(list(rule) in SCHEME, False)
        for value in (*VALUES, (("a",), ("c",)), (("a",), ["b"]), LINES[1]):
            self.assertIs(value in SCHEME, False)
            self.assertIs(SCHEME == value, False)
            self.assertIs(SCHEME != value, True)
        self.assertEqual(SCHEME, Scheme.from_lines(*LINES))
        self.assertNotEqual(SCHEME, SCHEME.without_rule(SCHEME.rules[0]))
        self.assertNotEqual(LOOSE, Scheme(("a", "c"), ()))


class RowsTest(RefusingCase):

    def test_keeps_by_chance(self):
        chance = random.Random(1)
        seen = [0, 0]
        for _ in range(400):
            scheme = some_scheme(chance, letters="abcd", most=3)
            rows = tuple(sorted({tuple(chance.choices(range(2), k=len(scheme.columns)))
                                 for _ in range(chance.randint(0, 4))}))
            right = all(keeps_by_words(scheme, rows, rule) for rule in scheme.rules)
            self.assertIs(keeps(scheme, rows), right)
            seen[right] += 1
        self.assertGreater(min(seen), 50)

    def test_an_empty_left_side(self):
        self.assertIs(keeps(CONSTANT, ((0, 0, 5), (1, 0, 5), (2, 1, 5))), True)
        self.assertIs(keeps(CONSTANT, ((0, 0, 5), (1, 0, 6))), False)
        self.assertIs(keeps(CONSTANT, ()), True)
        self.assertIs(keeps(CONSTANT, ((SIXTY, 0, 0),)), True)

    def test_many_rows(self):
        rows = tuple((at, at // 2, at % 5, (at // 2) * 5 + at % 5) for at in range(3000))
        self.assertIs(keeps(SCHEME, rows), True)
        self.assertIs(keeps(SCHEME, (*rows, (3000, 0, 0, 7))), False)

    def test_wrong_rows(self):
        for value in (*VALUES, ((0, 0, 0),), ((0, 0, 0, 0, 0),), ((1, 0, 0, 0), (0, 0, 0, 0)), ((0, 0, 0, 0), (0, 0, 0, 0)),
                      [(0, 0, 0, 0)], ([0, 0, 0, 0],), ((0, 0, 0, True),), ((0, 0, 0, -1),), ((0, 0, 0, SIXTY_ONE),),
                      (0, 0, 0, 0), ((0, 0, 0, None),), {(0, 0, 0, 0): 1}):
            if value != ():
                self.refused(InvalidRow, keeps, SCHEME, value)
        for value in VALUES:
            self.refused(InvalidScheme, keeps, value, value)


class ClosuresTest(RefusingCase):

    def test_by_search(self):
        chance = random.Random(2)
        for at in range(60):
            scheme = some_scheme(chance, letters="abcde" if at % 2 else "abcd", most=5)
            closed = {}
            for columns in all_sides(scheme.columns):
                closed[columns] = closure(scheme, columns)
                self.assertEqual(closed[columns], decided_by_search(scheme, columns))
                for column in scheme.columns:
                    self.assertIs(decides(scheme, columns, column), column in closed[columns])
            keys = [columns for columns in closed if closed[columns] == scheme.columns]
            least = [key for key in keys if not any(set(other) < set(key) for other in keys)]
            self.assertEqual(least_keys(scheme), tuple(sorted(least)))

    def test_keys(self):
        self.assertEqual(least_keys(SCHEME), (("a", "c"),))
        self.assertEqual(least_keys(LOOSE), (("a", "b"),))
        self.assertEqual(least_keys(Scheme(("a", "b"), (((), ("a", "b")),))), ((),))
        ring = Scheme(tuple("abcdefgh"), tuple(((one,), (other,)) for one, other in zip("abcdefgh", "bcdefgha")))
        self.assertEqual(least_keys(ring), tuple((column,) for column in "abcdefgh"))
        pairs = Scheme(tuple("abcdefgh"), tuple(sorted([((one,), (other,)) for one, other in ("ab", "ba", "cd", "dc", "ef",
                                                                                               "fe", "gh", "hg")])))
        self.assertEqual(len(least_keys(pairs)), 16)

    def test_wrong_arguments(self):
        for value in VALUES:
            self.refused(InvalidScheme, closure, value, value)
            self.refused(InvalidScheme, decides, value, value, value)
            self.refused(InvalidScheme, least_keys, value)
        for value in (*VALUES, ("b", "a"), ("a", "a"), ("e",), ["a"], "a", (("a",),), ("a", None)):
            if value not in ((), ("a",), ("a", "b")):
                self.refused(InvalidOperation, closure, SCHEME, value)
                self.refused(InvalidOperation, decides, SCHEME, value, value)
        for value in VALUES:
            if value != "a":
                self.refused(UnknownName, decides, SCHEME, ("a",), value, keeps=("word", value))


class FollowingTest(RefusingCase):

    def test_by_search(self):
        chance = random.Random(3)
        seen = [0, 0]
        for _ in range(150):
            scheme = some_scheme(chance, letters="abcd", most=4)
            for _ in range(5):
                rule = some_rule(chance, scheme.columns)
                right = all(keeps_by_words(scheme, pair, rule) for pair in all_pairs(scheme)
                            if all(keeps_by_words(scheme, pair, other) for other in scheme.rules))
                self.assertIs(follows(scheme, rule), right)
                told, pair = derivation(scheme, rule), parting_pair(scheme, rule)
                self.assertEqual((told is None, pair is None), (not right, right))
                if right:
                    self.assertTrue(is_derivation_by_words(scheme, rule, told))
                    self.assertIs(is_derivation(scheme, rule, told), True)
                else:
                    self.assertLess(pair[0], pair[1])
                    self.assertTrue(all(keeps_by_words(scheme, pair, other) for other in scheme.rules))
                    self.assertFalse(keeps_by_words(scheme, pair, rule))
                    self.assertIs(is_parting_pair(scheme, rule, pair), True)
                seen[right] += 1
        self.assertGreater(min(seen), 100)

    def test_all_derivations(self):
        chance = random.Random(4)
        seen = 0
        for _ in range(60):
            scheme = some_scheme(chance, letters="abcd", most=4)
            rule = some_rule(chance, scheme.columns)
            for many in range(len(scheme) + 1):
                for some in itertools.product(range(len(scheme)), repeat=many):
                    right = is_derivation_by_words(scheme, rule, some)
                    self.assertIs(is_derivation(scheme, rule, some), right)
                    seen += right
        self.assertGreater(seen, 50)

    def test_all_parting_pairs(self):
        chance = random.Random(5)
        seen = 0
        for _ in range(40):
            scheme = some_scheme(chance, letters="abc", most=3)
            rule = some_rule(chance, scheme.columns)
            rows = list(itertools.product((0, 1, SIXTY), repeat=len(scheme.columns)))
            for one in rows:
                for other in rows:
                    right = one < other and not keeps_by_words(scheme, (one, other), rule) and all(
                        keeps_by_words(scheme, (one, other), told) for told in scheme.rules)
                    self.assertIs(is_parting_pair(scheme, rule, (one, other)), right)
                    seen += right
        self.assertGreater(seen, 100)

    def test_derivations(self):
        rule = (("a", "c"), ("d",))
        self.assertEqual(derivation(SCHEME, rule), (0, 1))
        for value in (*VALUES, (1, 0), (0,), (1,), (0, 1, 1), (0, 0, 1), (0, 1, 2), (-2, 1), [0, 1], (False, 1), (0, True),
                      (0, None), (0, [1]), ((0,), (1,))):
            self.assertIs(is_derivation(SCHEME, rule, value), False, value)
        more = SCHEME.with_rule((("d",), ("a",)))
        self.assertIs(is_derivation(more, rule, (0, 1, 2)), True)
        self.assertIs(is_derivation(more, rule, (0, 1)), True)
        self.assertIs(is_derivation(more, rule, (2, 0, 1)), False)
        # Each rule is needed, and the last one first.
        back = Scheme(tuple("abcdefgh"), tuple(((other,), (one,)) for one, other in zip("abcdefg", "bcdefgh")))
        self.assertEqual(derivation(back, (("h",), ("a",))), (6, 5, 4, 3, 2, 1, 0))
        self.assertEqual(derivation(back, (("d",), ("b", "c"))), (2, 1))
        # A rule whose right side lies within its left one needs nothing.
        self.assertEqual(derivation(LOOSE, (("a", "b"), ("a",))), ())
        self.assertIs(is_derivation(LOOSE, (("a", "b"), ("a",)), ()), True)
        self.assertIs(is_derivation(LOOSE, (("a",), ("b",)), ()), False)
        self.assertIs(is_derivation(CONSTANT, ((), ("c",)), (0,)), True)
        self.assertIs(is_derivation(CONSTANT, ((), ("b",)), (0, 1)), False)

    def test_parting_pairs(self):
        rule = (("b",), ("d",))
        self.assertIs(is_parting_pair(SCHEME, rule, ((0, 0, 0, 0), (1, 0, 1, 1))), True)
        for value in (*VALUES, ((1, 0, 1, 1), (0, 0, 0, 0)), ((0, 0, 0, 0), (1, 0, 1, 0)), ((0, 0, 0, 0), (1, 0, 0, 1)),
                      [(0, 0, 0, 0), (1, 0, 1, 1)], ((0, 0, 0, 0), [1, 0, 1, 1]), ((0, 0, 0, 0),), ((0, 0, 0), (1, 0, 1)),
                      ((0, 0, 0, 0), (1, 0, 1, True)), ((0, 0, 0, 0), (1, 0, 1, 1), (2, 0, 2, 2)),
                      ((0, 0, 0, 0), (0, 0, 0, 0)), ((0, 0, 0, 0), (1, 1, 1, 1)), ((0, 0, 0, -1), (1, 0, 1, 1))):
            self.assertIs(is_parting_pair(SCHEME, rule, value), False, value)

    def test_wrong_arguments(self):
        for value in VALUES:
            for call in (follows, derivation, parting_pair):
                self.refused(InvalidScheme, call, value, value)
            for call in (is_derivation, is_parting_pair):
                self.refused(InvalidScheme, call, value, value, value)
        for value in (*VALUES, (("a",), ()), (("e",), ("a",)), (("b", "a"), ("c",)), ("a", ("b",)), [("a",), ("b",)]):
            for call in (follows, derivation, parting_pair):
                self.refused(InvalidRule, call, SCHEME, value)
            for call in (is_derivation, is_parting_pair):
                self.refused(InvalidRule, call, SCHEME, value, value)
        for value in (PATH, STORE):
            self.assertIs(is_derivation(SCHEME, (("a",), ("b",)), value), False)


if __name__ == "__main__":
    unittest.main()
