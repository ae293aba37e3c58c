"""Points 0.25, 15.4 to 15.6: the functions of joinhouse.split.chase."""

import itertools
import random
import unittest

from joinhouse.base.questions import Question
from joinhouse.base.readings import answers
from joinhouse.base.stores import Store, fits
from joinhouse.errors import InvalidRow, InvalidScheme, InvalidSplit, InvalidStore, TooMany
from joinhouse.split.chase import (
    are_told_apart,
    chase_run,
    chased,
    is_chase_run,
    is_lossless,
    is_lost_row,
    is_normal_part,
    is_normal_split,
    joined_rows,
    lost_row,
    normal_split,
    split_question,
    split_store,
)
from joinhouse.split.rules import Scheme, closure, follows, keeps
from tests.brute import all_sides, some_scheme
from tests.samples import SIXTY, SIXTY_ONE, STORE, VALUES, RefusingCase

SCHEME = Scheme.from_lines("columns a b c d", "rule a -> b", "rule b c -> d")
GOOD = (("a", "b"), ("a", "c", "d"))
BAD = (("a", "b"), ("b", "c", "d"))
WHOLE = (("a", "b", "c", "d"),)
NO_SPLITS = (
    (), ("a", "b", "c", "d"), (("a", "b"), ("c",)), (("a", "b", "c", "d"), ()), ((), ("a", "b", "c", "d")),
    (("b", "a"), ("c", "d")), (("a", "a"), ("b", "c", "d")), (("a", "b", "c", "d", "e"),), (("c", "d"), ("a", "b")),
    (("a", "b", "c", "d"), ("a", "b", "c", "d")), [("a", "b", "c", "d")], (["a", "b", "c", "d"],), ("abcd",),
    (("a", "b"), ("c", None)), (("a", "b"), ("c", "d"), None), (("a", "b", "c", ("d",)),),
)


def some_split(chance, scheme, most=4):
    """A split of a scheme by chance."""
    while True:
        # All columns in one part come up seldom, as nothing is lost then.
        wide = len(scheme.columns) - (1 if chance.random() < 0.9 and len(scheme.columns) > 1 else 0)
        parts = {tuple(sorted(chance.sample(scheme.columns, chance.randint(1, wide))))
                 for _ in range(chance.randint(1, most))}
        if {column for part in parts for column in part} == set(scheme.columns):
            return tuple(sorted(parts))


def some_rows(chance, scheme, most=5, values=3):
    return tuple(sorted({tuple(chance.choices(range(values), k=len(scheme.columns)))
                         for _ in range(chance.randint(0, most))}))


def shown(scheme, part, row):
    """What a row has in the columns of a part."""
    return tuple(row[scheme.columns.index(column)] for column in part)


def joined_by_words(scheme, split, rows):
    values = sorted({value for row in rows for value in row})
    return tuple(row for row in itertools.product(values, repeat=len(scheme.columns))
                 if all(any(shown(scheme, part, row) == shown(scheme, part, other) for other in rows) for part in split))


def begun(scheme, split):
    """The rows at the beginning of the chase."""
    return [[0 if column in part else at + 1 for column in scheme.columns] for at, part in enumerate(split)]


def can_be_done(scheme, rows, step):
    rule, one, other = step
    return shown(scheme, scheme.rules[rule][0], rows[one]) == shown(scheme, scheme.rules[rule][0], rows[other])


def done(scheme, rows, step):
    """The rows behind a step."""
    rule, one, other = step
    rows = [list(row) for row in rows]
    for column in scheme.rules[rule][1]:
        place = scheme.columns.index(column)
        low, high = sorted((rows[one][place], rows[other][place]))
        for row in rows:
            if row[place] == high:
                row[place] = low
    return rows


def all_steps(scheme, split):
    return [(rule, one, other) for rule in range(len(scheme))
            for one, other in itertools.combinations(range(len(split)), 2)]


def chased_in_any_order(chance, scheme, split):
    """The rows at the end of the chase, with steps in an order by chance."""
    rows = begun(scheme, split)
    while True:
        steps = [step for step in all_steps(scheme, split)
                 if can_be_done(scheme, rows, step) and done(scheme, rows, step) != rows]
        if not steps:
            return tuple(tuple(row) for row in rows)
        rows = done(scheme, rows, chance.choice(steps))


def is_run_by_words(scheme, split, steps):
    rows = begun(scheme, split)
    for step in steps:
        if not can_be_done(scheme, rows, step):
            return False
        rows = done(scheme, rows, step)
    return any(not any(row) for row in rows)


def is_normal_by_words(scheme, part):
    for some in all_sides(part):
        decided = set(closure(scheme, some)) & set(part)
        if decided > set(some) and decided != set(part):
            return False
    return True


def are_told_by_words(scheme, split):
    """Whether the rules follow from all rules within parts that follow, listed one by one."""
    columns = scheme.columns
    within = [(left, (column,)) for part in split for left in all_sides(part) for column in part
              if follows(scheme, (left, (column,)))]
    for left, right in scheme.rules:
        known = set(left)
        while True:
            more = known | {column for some, told in within if set(some) <= known for column in told}
            if more == known:
                break
            known = more
        if not set(right) <= known <= set(columns):
            return False
    return True


class JoinedRowsTest(RefusingCase):

    def test_by_words(self):
        chance = random.Random(1)
        more = 0
        for _ in range(200):
            scheme = some_scheme(chance, letters="abcd")
            split, rows = some_split(chance, scheme), some_rows(chance, scheme)
            right = joined_by_words(scheme, split, rows)
            self.assertEqual(joined_rows(scheme, split, rows), right)
            self.assertTrue(set(rows) <= set(right))
            self.check_question(scheme, split, rows, right)
            more += len(right) > len(rows)
        self.assertGreater(more, 30)

    def check_question(self, scheme, split, rows, right):
        """Checks that the answers of the split question in the split store are the joined rows."""
        question, store = split_question(scheme, split), split_store(scheme, split, rows)
        tables = ["p" + letter for letter, _ in zip("abcdefgh", split)]
        self.assertEqual(question, Question(tuple(zip(tables, split)), scheme.columns))
        self.assertTrue(fits(store, question))
        self.assertEqual(sorted(store.tables), tables)
        for name, part in zip(tables, split):
            self.assertEqual(store.rows(name), tuple(sorted({shown(scheme, part, row) for row in rows})))
        self.assertEqual(answers(question, store), right)

    def test_limits(self):
        loose = Scheme(("a", "b"), ())
        apart = (("a",), ("b",))
        rows = tuple((at, at) for at in range(54))
        self.assertEqual(len(joined_rows(loose, apart, rows)), 54 * 54)
        self.refused(TooMany, joined_rows, loose, apart, tuple((at, at) for at in range(55)), keeps=("limit", 3000))
        self.refused(TooMany, joined_rows, loose, apart, tuple((at, at) for at in range(2500)), keeps=("limit", 3000))
        three = Scheme(("a", "b", "c"), ())
        split = (("a", "c"), ("b", "c"))
        # Just three thousand: fifty by sixty, all with the same third value; then one more.
        some = tuple(sorted({(at % 50, at % 60, 0) for at in range(300)}))
        self.assertEqual(len(joined_rows(three, split, some)), 3000)
        self.refused(TooMany, joined_rows, three, split, (*some, (60, 60, 60)), keeps=("limit", 3000))
        whole = tuple((at, 0) for at in range(3000))
        self.assertEqual(joined_rows(loose, (("a", "b"),), whole), whole)
        self.refused(TooMany, joined_rows, loose, (("a", "b"),), (*whole, (3000, 0)), keeps=("limit", 3000))

    def test_eight_parts(self):
        columns = tuple("abcdefgh")
        scheme = Scheme(columns, ())
        ring = tuple(sorted(tuple(sorted(pair)) for pair in zip(columns, columns[1:] + columns[:1])))
        chance = random.Random(2)
        rows = tuple(sorted({tuple(chance.choices(range(100), k=8)) for _ in range(120)}))
        found = joined_rows(scheme, ring, rows)
        self.assertTrue(set(rows) <= set(found))
        for row in found:
            for part in ring:
                self.assertIn(shown(scheme, part, row), {shown(scheme, part, other) for other in rows})
        self.check_question(scheme, ring, rows, found)
        loose = tuple((column,) for column in columns)
        self.refused(TooMany, joined_rows, scheme, loose, rows, keeps=("limit", 3000))
        self.assertEqual(joined_rows(scheme, loose, rows[:1]), rows[:1])
        self.assertEqual(joined_rows(scheme, loose, ()), ())

    def test_stores_that_are_none(self):
        loose = Scheme(("a", "b"), ())
        rows = tuple((at, at) for at in range(1500))
        self.assertEqual(len(split_store(loose, (("a",), ("b",)), rows)), 3000)
        self.refused(InvalidStore, split_store, loose, (("a",), ("b",)), (*rows, (1501, 1501)))
        self.assertEqual(len(split_store(loose, (("a",), ("b",)), (*rows[:-1], (1499, 7)))), 2999)
        self.assertEqual(split_store(loose, (("a",), ("b",)), ()), Store({"pa": 1, "pb": 1}, {}))

    def test_wrong_arguments(self):
        for value in VALUES:
            self.refused(InvalidScheme, joined_rows, value, value, value)
            self.refused(InvalidScheme, split_store, value, value, value)
            self.refused(InvalidScheme, split_question, value, value)
        for value in (*NO_SPLITS, *VALUES):
            self.refused(InvalidSplit, joined_rows, SCHEME, value, None)
            self.refused(InvalidSplit, split_store, SCHEME, value, None)
            self.refused(InvalidSplit, split_question, SCHEME, value)
        for value in (*VALUES, ((0, 0, 0),), ((1, 0, 0, 0), (0, 0, 0, 0)), ((0, 0, 0, 0), (0, 0, 0, 0)), [(0, 0, 0, 0)],
                      ((0, 0, 0, True),), ((0, 0, 0, -1),), ((0, 0, 0, SIXTY_ONE),), ([0, 0, 0, 0],)):
            if value != ():
                self.refused(InvalidRow, joined_rows, SCHEME, GOOD, value)
                self.refused(InvalidRow, split_store, SCHEME, GOOD, value)
        nine = tuple(sorted({(one, other) for one, other in itertools.combinations("abcde", 2)}))[:9]
        five = Scheme(tuple("abcde"), ())
        self.refused(InvalidSplit, split_question, five, nine)
        self.assertEqual(len(split_question(five, (*nine[:7], ("d", "e")))), 8)


class ChaseTest(RefusingCase):

    def check(self, chance, scheme, split):
        """Checks the chase, the run and the lost row of a split."""
        end = chased(scheme, split)
        for _ in range(3):
            self.assertEqual(chased_in_any_order(chance, scheme, split), end)
        full = (0,) * len(scheme.columns) in end
        self.assertIs(is_lossless(scheme, split), full)
        run, lost = chase_run(scheme, split), lost_row(scheme, split)
        self.assertEqual((run is None, lost is None), (not full, full))
        if full:
            self.assertTrue(is_run_by_words(scheme, split, run))
            self.assertIs(is_chase_run(scheme, split, run), True)
        else:
            rows, row = lost
            self.assertTrue(keeps(scheme, rows))
            self.assertNotIn(row, rows)
            self.assertIn(row, joined_rows(scheme, split, rows))
            self.assertIs(is_lost_row(scheme, split, lost), True)
        return full

    def test_by_chance(self):
        chance = random.Random(3)
        seen = [0, 0]
        for at in range(200):
            scheme = some_scheme(chance, letters="abcdef"[:chance.randint(2, 6)], most=6)
            seen[self.check(chance, scheme, some_split(chance, scheme))] += 1
        self.assertGreater(min(seen), 40)

    def test_without_loss_in_all_rows(self):
        chance = random.Random(4)
        for _ in range(80):
            scheme = some_scheme(chance, letters="abc", most=3)
            split = some_split(chance, scheme, 3)
            lossless = is_lossless(scheme, split)
            for _ in range(20):
                rows = some_rows(chance, scheme, 4, 2)
                if keeps(scheme, rows) and lossless:
                    self.assertEqual(joined_rows(scheme, split, rows), rows)

    def test_values_are_told_by_their_columns(self):
        # The value 2 becomes 1 in the one column, and stays in the others.
        scheme = Scheme.from_lines("columns a b c", "rule a -> b")
        split = (("a",), ("a", "c"), ("b", "c"))
        self.assertEqual(chased(scheme, split), ((0, 1, 1), (0, 1, 0), (3, 0, 0)))

    def test_all_runs(self):
        chance = random.Random(5)
        seen = 0
        for _ in range(60):
            scheme = some_scheme(chance, letters="abcd", most=3)
            split = some_split(chance, scheme, 3)
            steps = all_steps(scheme, split)
            for many in range(4):
                for _ in range(25):
                    some = tuple(chance.choices(steps, k=many)) if steps else ()
                    right = is_run_by_words(scheme, split, some)
                    self.assertIs(is_chase_run(scheme, split, some), right)
                    seen += right
        self.assertGreater(seen, 100)

    def test_runs(self):
        self.assertIs(is_chase_run(SCHEME, GOOD, ((0, 0, 1),)), True)
        # Steps that change nothing, and steps behind the full row.
        self.assertIs(is_chase_run(SCHEME, GOOD, ((0, 0, 1), (0, 0, 1))), True)
        self.assertIs(is_chase_run(SCHEME, WHOLE, ()), True)
        for value in (*VALUES, ((1, 0, 1),), ((1, 0, 1), (0, 0, 1)), ((0, 1, 0),), ((0, 0, 0),), ((0, 0, 2),), ((2, 0, 1),),
                      [(0, 0, 1)], ([0, 0, 1],), ((False, 0, 1),), ((0, 0, True),), ((0, False, 1),), ((0, 0),), ((0, 0, 1, 0),),
                      ((0, 0, 1), None), (0, 0, 1), ((0, 0, -1),), ((0, None, 1),), ((0, 0, 1), (0, 0, 0)), ((0, 0, 1), (0, 1, 1)),
                      ((0, 0, 1), (0, 1, 0))):
            self.assertIs(is_chase_run(SCHEME, GOOD, value), False, value)
        three = Scheme.from_lines("columns a b c", "rule a -> b", "rule b -> c")
        split = (("a", "b"), ("a", "c"))
        self.assertIs(is_chase_run(three, split, ((0, 0, 1), (1, 0, 1))), True)
        self.assertIs(is_chase_run(three, split, ((1, 0, 1), (0, 0, 1))), False)
        self.assertIs(is_chase_run(three, split, ((0, 0, 1),)), True)

    def test_lost_rows(self):
        rows, row = chased(SCHEME, BAD), (0, 0, 0, 0)
        self.assertIs(is_lost_row(SCHEME, BAD, (rows, row)), True)
        other = ((1, 5, 2, 3), (4, 5, 6, 7))
        self.assertIs(is_lost_row(SCHEME, BAD, (other, (1, 5, 6, 7))), True)
        self.assertIs(is_lost_row(SCHEME, BAD, (other, (4, 5, 2, 3))), True)
        for value in (
            *VALUES, (other, (1, 5, 2, 3)), (other, (1, 5, 2, 7)), (other, (9, 5, 6, 7)), (other[::-1], (1, 5, 6, 7)),
            (((1, 5, 2, 3), (4, 5, 2, 7)), (1, 5, 2, 7)), (other, [1, 5, 6, 7]), (list(other), (1, 5, 6, 7)),
            (other, (1, 5, 6)), (other,), (other, (1, 5, 6, 7), ()), (other, None), ((), (0, 0, 0, 0)), [rows, row],
            (((0, 0, 1, 1), (2, 0, 0, 0)), (0, 0, 0, False)), (((0, 0, 1, True), (2, 0, 0, 0)), (0, 0, 0, 0)),
            ((*other, other[0]), (1, 5, 6, 7)),
        ):
            self.assertIs(is_lost_row(SCHEME, BAD, value), False, value)
        for value in ((other, (1, 5, 6, 7)), (rows, row)):
            self.assertIs(is_lost_row(SCHEME, GOOD, value), False)

    def test_all_lost_rows(self):
        chance = random.Random(6)
        seen = 0
        for _ in range(120):
            scheme = some_scheme(chance, letters="abc", most=2)
            split, rows = some_split(chance, scheme, 3), some_rows(chance, scheme, 3, 2)
            joined = joined_by_words(scheme, split, rows)
            for row in itertools.product(range(3), repeat=3):
                right = keeps(scheme, rows) and row in joined and row not in rows
                self.assertIs(is_lost_row(scheme, split, (rows, row)), right)
                seen += right
        self.assertGreater(seen, 20)

    def test_eight_columns(self):
        columns = tuple("abcdefgh")
        rules = tuple(((one,), (other,)) for one, other in zip(columns, columns[1:]))
        scheme = Scheme(columns, rules)
        split = tuple(sorted(tuple(pair) for pair in zip(columns, columns[1:])))
        self.check(random.Random(7), scheme, split)
        self.assertIs(is_lossless(scheme, split), True)
        self.assertIs(is_lossless(scheme, (*split[:6], ("h",))), False)
        with_keys = Scheme(columns, tuple(sorted([((), ("a",)), ((), ("b",)), *rules])))
        self.assertIs(is_lossless(with_keys, tuple((column,) for column in columns)), True)

    def test_wrong_arguments(self):
        for value in VALUES:
            for call in (chased, is_lossless, chase_run, lost_row, are_told_apart):
                self.refused(InvalidScheme, call, value, value)
            for call in (is_chase_run, is_lost_row):
                self.refused(InvalidScheme, call, value, value, value)
        for value in (*NO_SPLITS, *VALUES):
            for call in (chased, is_lossless, chase_run, lost_row, are_told_apart):
                self.refused(InvalidSplit, call, SCHEME, value)
            for call in (is_chase_run, is_lost_row):
                self.refused(InvalidSplit, call, SCHEME, value, value)


class NormalPartsTest(RefusingCase):

    def test_by_words(self):
        chance = random.Random(8)
        seen = [0, 0]
        for at in range(150):
            scheme = some_scheme(chance, letters="abcde" if at % 2 else "abc", most=4)
            for part in all_sides(scheme.columns)[1:]:
                right = is_normal_by_words(scheme, part)
                self.assertIs(is_normal_part(scheme, part), right)
                seen[right] += 1
        self.assertGreater(min(seen), 100)

    def test_splits(self):
        chance = random.Random(9)
        parts = set()
        for at in range(200):
            scheme = some_scheme(chance, letters="abcdefgh"[:chance.randint(1, 8)], most=chance.choice((3, 6, 12)))
            split = normal_split(scheme)
            self.assertTrue(all(is_normal_by_words(scheme, part) for part in split))
            self.assertIs(is_lossless(scheme, split), True)
            self.assertIs(is_normal_split(scheme, split), True)
            parts.add(len(split))
        self.assertGreater(len(parts), 3)

    def test_many_parts(self):
        columns = tuple("abcdefgh")
        for rules in (
            [(left, (column,)) for column in "fgh" for left in itertools.combinations("abcde", 3)][:12],
            [((one,), (other,)) for one, other in zip("abcdefg", "bcdefgh")],
            [((), (column,)) for column in columns], [(("a",), (column,)) for column in "bcdefgh"],
            [(tuple(sorted(set(columns) - {column, "a"})), (column,)) for column in "bcdefgh"],
        ):
            scheme = Scheme(columns, tuple(sorted(set(rules))))
            split = normal_split(scheme)
            self.assertTrue(1 <= len(split) <= 8)
            self.assertIs(is_normal_split(scheme, split), True)

    def test_an_empty_left_side(self):
        scheme = Scheme.from_lines("columns a b", "rule -> b")
        self.assertIs(is_normal_part(scheme, ("a", "b")), False)
        self.assertEqual(normal_split(scheme), (("a",), ("b",)))
        self.assertEqual(normal_split(Scheme(("a", "b"), (((), ("a", "b")),))), (("a", "b"),))

    def test_judges(self):
        self.assertIs(is_normal_split(SCHEME, GOOD), True)
        self.assertIs(is_normal_part(SCHEME, ("a", "b", "c")), False)
        self.assertIs(is_normal_part(SCHEME, ("a", "c", "d")), True)
        for value in (*VALUES, *NO_SPLITS, BAD, WHOLE, (("a", "b"), ("c", "d")), (("a", "b", "c"), ("a", "c", "d"))):
            self.assertIs(is_normal_split(SCHEME, value), False, value)
        # Parts can lie within others.
        self.assertIs(is_normal_split(SCHEME, (("a",), ("a", "b"), ("a", "c", "d"))), True)
        chance = random.Random(10)
        seen = [0, 0]
        for _ in range(150):
            scheme = some_scheme(chance, letters="abcd", most=3)
            split = some_split(chance, scheme, 3)
            right = is_lossless(scheme, split) and all(is_normal_by_words(scheme, part) for part in split)
            self.assertIs(is_normal_split(scheme, split), right)
            seen[right] += 1
        self.assertGreater(min(seen), 10)

    def test_wrong_arguments(self):
        for value in VALUES:
            self.refused(InvalidScheme, is_normal_part, value, value)
            self.refused(InvalidScheme, normal_split, value)
            self.refused(InvalidScheme, is_normal_split, value, value)
        for value in (*VALUES, (), ("b", "a"), ("a", "a"), ("e",), ["a"], "a", (("a",),), ("a", "b", "c", "d", "e")):
            if value not in (("a",), ("a", "b")):
                self.refused(InvalidSplit, is_normal_part, SCHEME, value)


class ToldApartTest(RefusingCase):

    def test_by_words(self):
        chance = random.Random(11)
        seen = [0, 0]
        for _ in range(200):
            scheme = some_scheme(chance, letters="abcd", most=4)
            split = some_split(chance, scheme)
            right = are_told_by_words(scheme, split)
            self.assertIs(are_told_apart(scheme, split), right)
            seen[right] += 1
        self.assertGreater(min(seen), 30)

    def test_rules_that_follow_from_rules_of_several_parts(self):
        # That a decides c follows from a -> b and b -> c, which lie within parts, and are no rules of the scheme.
        scheme = Scheme.from_lines("columns a b c", "rule a -> c", "rule a -> b", "rule b -> c")
        self.assertIs(are_told_apart(scheme, (("a", "b"), ("b", "c"))), True)
        ring = Scheme.from_lines("columns a b c", "rule a -> b", "rule b -> c", "rule c -> a")
        self.assertIs(are_told_apart(ring, (("a", "b"), ("b", "c"))), True)
        long = Scheme.from_lines("columns a b c d", "rule a -> b", "rule b -> c", "rule c -> d", "rule d -> a")
        self.assertIs(are_told_apart(long, (("a", "b"), ("b", "c"), ("c", "d"))), True)
        self.assertIs(are_told_apart(SCHEME, GOOD), False)
        self.assertIs(are_told_apart(SCHEME, WHOLE), True)
        self.assertIs(are_told_apart(Scheme(("a", "b"), ()), (("a",), ("b",))), True)

    def test_without_loss_and_yet_not_told_apart(self):
        self.assertIs(is_lossless(SCHEME, GOOD), True)
        self.assertIs(are_told_apart(SCHEME, GOOD), False)
        self.assertEqual(SIXTY + 1, SIXTY_ONE)
        self.assertIs(is_normal_split(SCHEME, STORE), False)


if __name__ == "__main__":
    unittest.main()
