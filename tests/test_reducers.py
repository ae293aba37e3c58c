"""Points 0.17, 10.1 to 10.3 and the functions of joinhouse.shape.reducers."""

import itertools
import random
import unittest

from joinhouse.base.questions import Question
from joinhouse.base.stores import Store, fits
from joinhouse.errors import InvalidNumber, InvalidOperation, InvalidProgram, InvalidQuestion, InvalidStore, TooMany
from joinhouse.shape.knots import is_stuck, stuck_store
from joinhouse.shape.reducers import (
    count_copies,
    full_reducer,
    is_full_reducer,
    is_program,
    left_by,
    missed_store,
    read_rows,
)
from joinhouse.shape.trees import join_tree
from tests.brute import agree, agrees_itself, asking, ring_of, rows_in_readings, shape, some_shape, store_for
from tests.samples import PATH, RING, SIXTY_ONE, STORE, TWICE, VALUES, RefusingCase

SINGLE = asking("r a b")
STAR = shape("ab", "ac", "ad")


def left_by_words(question, store, program):
    """The rows that a program leaves, as point 10.1 tells it."""
    left = [{row for row in store.rows(table) if agrees_itself(columns, row)} for table, columns in question.clauses]
    for one, other in program:
        columns, others = question.clauses[one][1], question.clauses[other][1]
        left[one] = {row for row in left[one] if any(agree(columns, row, others, beside) for beside in left[other])}
    return tuple(tuple(sorted(rows)) for rows in left)


def copies_by_words(program, index):
    """The clauses of the copies of an unfolding, one by one, as point 10.3 tells it."""
    copies = [index]
    for one, other in reversed(program):
        copies += [other for copy in copies if copy == one]
    return copies


def some_program(chance, question, most=6):
    every = [(one, other) for one in range(len(question)) for other in range(len(question)) if one != other]
    return tuple(chance.choice(every) for _ in range(chance.randint(0, most) if every else 0))


class ProgramsTest(RefusingCase):

    def test_is_program(self):
        for value in ((), ((0, 1),), ((1, 0), (0, 1)), ((0, 1), (0, 1)), ((0, 1),) * 20):
            self.assertIs(is_program(PATH, value), True)
        for value in (((0, 1),) * 21, ((0, 0),), ((0, 2),), ((-1, 0),), ((True, 0),), ((0, True),), ((1, False),),
                      [(0, 1)], ([0, 1],), ((0, 1, 0),), ((0,),), (0, 1), ((0, None),), ((0, [1]),), ((0, SIXTY_ONE),),
                      ((0, 1), (1, 1))):
            self.assertIs(is_program(PATH, value), False, value)
            self.refused(InvalidProgram, left_by, PATH, STORE, value)
            self.refused(InvalidProgram, count_copies, PATH, value, 0)
            self.refused(InvalidProgram, is_full_reducer, PATH, value)
            self.refused(InvalidProgram, missed_store, PATH, value)
        for value in VALUES:
            self.assertIs(is_program(PATH, value), value == ())
        self.assertIs(is_program(SINGLE, ()), True)
        self.assertIs(is_program(SINGLE, ((0, 0),)), False)
        self.assertIs(is_program(SINGLE, ((0, 1),)), False)

    def test_left_step_by_step(self):
        chance = random.Random(1)
        struck = 0
        for at in range(300):
            question = some_shape(chance, letters="abcdef" if at % 2 else "abcd", most=4)
            store = store_for(chance, question, most=5)
            program = some_program(chance, question)
            for length in range(len(program) + 1):
                right = left_by_words(question, store, program[:length])
                self.assertEqual(left_by(question, store, program[:length]), right)
            struck += right != left_by_words(question, store, ())
        self.assertGreater(struck, 50)

    def test_without_common_columns(self):
        loose = shape("a", "b")
        store = Store({"ta": 1, "tb": 1}, {"ta": ((1,), (2,))})
        self.assertEqual(left_by(loose, store, ((0, 1),)), ((), ()))
        self.assertEqual(left_by(loose, store, ((1, 0),)), (((1,), (2,)), ()))
        full = store.with_row("tb", (7,))
        self.assertEqual(left_by(loose, full, ((0, 1), (1, 0))), (((1,), (2,)), ((7,),)))

    def test_rows_that_do_not_agree_with_themselves(self):
        twice = shape("aa", "ab")
        store = Store({"ta": 2, "tb": 2}, {"ta": ((1, 1), (1, 2), (3, 3)), "tb": ((1, 2), (2, 1))})
        self.assertEqual(left_by(twice, store, ()), (((1, 1), (3, 3)), ((1, 2), (2, 1))))
        self.assertEqual(left_by(twice, store, ((0, 1), (1, 0))), (((1, 1),), ((1, 2),)))
        self.assertEqual(read_rows(twice, store), (((1, 1),), ((1, 2),)))

    def test_read_rows(self):
        chance = random.Random(2)
        found = 0
        for at in range(250):
            question = some_shape(chance, letters="abcd", most=4)
            store = store_for(chance, question, most=6, values=2 + at % 2)
            right = rows_in_readings(question, store)
            self.assertEqual(read_rows(question, store), right)
            found += any(right)
        self.assertGreater(found, 100)
        self.assertEqual(read_rows(RING, STORE), (((4, 3),), ((3, 6),), ((4, 6),)))
        self.assertEqual(read_rows(RING, stuck_store(RING)), ((), (), ()))

    def test_read_rows_of_millions_of_readings(self):
        star = shape("ab", "ac", "ad", "ae", "af", "ag", "ah", "a")
        rows = {"t" + letter: tuple((0, at) for at in range(428)) for letter in "abcdefg"}
        store = Store(star.tables, {**rows, "th": ((0,), (1,))})
        self.assertEqual(read_rows(star, store), (*rows.values(), ((0,),)))
        ring = ring_of("abcdefgh")
        rows = tuple((one, other) for one in range(19) for other in range(19))
        store = Store(ring.tables, {table: rows for table in ring.tables})
        self.assertEqual(read_rows(ring, store), (rows,) * 8)


class FullReducersTest(RefusingCase):

    def check(self, question, chance):
        """Checks the full reducer of a question, by stores and by its judge."""
        program = full_reducer(question)
        self.assertEqual(program is None, join_tree(question) is None)
        if program is not None:
            self.assertEqual(len(program), 2 * len(question) - 2)
            self.assertIs(is_program(question, program), True)
            self.assertIs(is_full_reducer(question, program), True)
            self.assertIsNone(missed_store(question, program))
            for _ in range(4):
                store = store_for(chance, question, most=4, values=2)
                self.assertEqual(left_by(question, store, program), read_rows(question, store))
        return program is not None

    def check_missed(self, question, program):
        """Checks that a program is a full reducer, or that a store shows that it is none."""
        store = missed_store(question, program)
        self.assertIs(is_full_reducer(question, program), store is None)
        if store is not None:
            self.assertIsInstance(store, Store)
            self.assertTrue(fits(store, question))
            left = left_by_words(question, store, program)
            self.assertEqual(left_by(question, store, program), left)
            self.assertTrue(any(set(one) - set(other) for one, other in zip(left, read_rows(question, store))))
        return store is None

    def test_by_chance(self):
        chance = random.Random(3)
        seen = [0, 0]
        for at in range(400):
            question = some_shape(chance, letters="abcdef" if at % 2 else "abcd", most=6)
            seen[self.check(question, chance)] += 1
        self.assertGreater(min(seen), 15)
        self.check(shape("a", "b", "c"), chance)
        self.check(shape("ab", "bc", "cd", "de", "ef", "fg", "gh", "h"), chance)

    def test_one_clause(self):
        self.assertEqual(full_reducer(SINGLE), ())
        self.assertIs(is_full_reducer(SINGLE, ()), True)
        self.assertIs(is_full_reducer(asking("r a a"), ()), True)
        self.assertIsNone(missed_store(SINGLE, ()))
        self.assertEqual(count_copies(SINGLE, (), 0), 1)

    def test_full_or_missed(self):
        chance = random.Random(4)
        seen = [0, 0]
        for at in range(400):
            question = some_shape(chance, letters="abcde", most=3)
            program = some_program(chance, question, most=8)
            full = self.check_missed(question, program)
            seen[full] += 1
            if full:
                for _ in range(4):
                    store = store_for(chance, question, most=4, values=2)
                    self.assertEqual(left_by(question, store, program), read_rows(question, store))
        self.assertGreater(min(seen), 50)

    def test_no_fewer_steps(self):
        for question in (PATH, STAR, shape("ab", "bc", "cd"), shape("a", "b"), shape("a", "b", "c"), shape("abc", "ab", "c")):
            every = [(one, other) for one in range(len(question)) for other in range(len(question)) if one != other]
            most = 2 * len(question) - 2
            full = 0
            for steps in range(most + 1):
                for program in itertools.product(every, repeat=steps):
                    if is_full_reducer(question, program):
                        full += 1
                        self.assertEqual(steps, most)
            self.assertGreater(full, 0)

    def test_no_program_for_a_knot(self):
        chance = random.Random(5)
        for question in (RING, ring_of("abcd"), shape("ab", "bc", "ca", "x")):
            self.assertIsNone(full_reducer(question))
            self.assertTrue(is_stuck(question, stuck_store(question)))
            for _ in range(40):
                self.assertFalse(self.check_missed(question, some_program(chance, question, most=9)))

    def test_in_another_order(self):
        line = shape("ab", "bc", "cd")
        for program, full in (
            (((1, 0), (2, 1), (1, 2), (0, 1)), True), (((1, 2), (0, 1), (1, 0), (2, 1)), True),
            (((1, 0), (1, 2), (0, 1), (2, 1)), True), (((0, 1), (1, 2), (2, 1), (1, 0)), False),
            (((1, 0), (2, 1), (0, 1), (1, 2)), False), (((1, 0), (2, 1), (1, 2), (0, 1), (0, 2)), True), ((), False),
        ):
            self.assertIs(self.check_missed(line, program), full, program)


class CopiesTest(RefusingCase):

    def test_by_hand(self):
        for program, numbers in (
            ((), (1, 1)), (((0, 1),), (2, 1)), (((1, 0),), (1, 2)), (((1, 0), (0, 1)), (3, 2)),
            (((0, 1), (1, 0)), (2, 3)), (((0, 1), (0, 1)), (3, 1)), (((0, 1), (1, 0), (0, 1)), (5, 3)),
            (((1, 0), (0, 1), (0, 1)), (5, 2)),
        ):
            self.assertEqual(tuple(count_copies(PATH, program, at) for at in range(2)), numbers, program)

    def test_against_a_search(self):
        chance = random.Random(6)
        for _ in range(100):
            question = some_shape(chance, most=4)
            program = some_program(chance, question, most=10)
            for at in range(len(question)):
                self.assertEqual(count_copies(question, program, at), len(copies_by_words(program, at)))

    def test_many_copies(self):
        program = ((0, 1), (1, 0)) * 10
        self.assertEqual(count_copies(PATH, program, 0), 10946)
        self.assertEqual(count_copies(PATH, program, 1), 17711)
        self.refused(TooMany, is_full_reducer, PATH, program, keeps=("limit", 400))
        self.refused(TooMany, missed_store, PATH, program, keeps=("limit", 400))

    def test_just_so_many(self):
        # The number of steps of one kind behind one another are factors: 1 + 19 * (1 + 20) copies of the first clause.
        seen = {}
        chance = random.Random(7)
        while not {400, 401} <= set(seen):
            program = some_program(chance, STAR, most=20)
            seen.setdefault(max(count_copies(STAR, program, at) for at in range(3)), program)
        self.assertIn(is_full_reducer(STAR, seen[400]), (True, False))
        self.assertEqual(missed_store(STAR, seen[400]) is None, is_full_reducer(STAR, seen[400]))
        self.refused(TooMany, is_full_reducer, STAR, seen[401], keeps=("limit", 400))
        self.refused(TooMany, missed_store, STAR, seen[401], keeps=("limit", 400))
        for most, program in seen.items():
            if most <= 400:
                self.assertEqual(missed_store(STAR, program) is None, is_full_reducer(STAR, program))
            else:
                self.refused(TooMany, is_full_reducer, STAR, program)

    def test_copies_are_counted_for_all_clauses(self):
        program = ((0, 1),) + ((1, 0), (0, 1)) * 6
        numbers = [count_copies(PATH, program, at) for at in range(2)]
        self.assertTrue(min(numbers) <= 400 < max(numbers), numbers)
        self.refused(TooMany, is_full_reducer, PATH, program, keeps=("limit", 400))

    def test_wrong_numbers(self):
        for value in VALUES:
            if value not in (0, 1) or value.__class__ is not int:
                self.refused(InvalidNumber, count_copies, PATH, ((0, 1),), value, keeps=("value", value))
        self.assertEqual(count_copies(PATH, ((0, 1),), 0), 2)


class RefusedCallsTest(RefusingCase):

    def test_questions(self):
        for value in VALUES:
            if not isinstance(value, Question):
                self.refused(InvalidQuestion, full_reducer, value)
                for function in (is_program, is_full_reducer, missed_store):
                    self.refused(InvalidQuestion, function, value, value)
                    self.refused(InvalidQuestion, function, value, ())
                self.refused(InvalidQuestion, read_rows, value, None)
                self.refused(InvalidQuestion, left_by, value, None, None)
                self.refused(InvalidQuestion, count_copies, value, None, None)
            self.refused(InvalidOperation, is_program, TWICE, value)
            self.refused(InvalidOperation, is_full_reducer, TWICE, value)
            self.refused(InvalidOperation, missed_store, TWICE, value)
            self.refused(InvalidOperation, read_rows, TWICE, value)
            self.refused(InvalidOperation, left_by, TWICE, value, value)
            self.refused(InvalidOperation, count_copies, TWICE, value, value)
        self.refused(InvalidOperation, full_reducer, TWICE)

    def test_stores(self):
        for value in VALUES:
            if not isinstance(value, Store):
                self.refused(InvalidStore, left_by, PATH, value, ())
                self.refused(InvalidStore, left_by, PATH, value, None)
                self.refused(InvalidStore, read_rows, PATH, value)
        less = STORE.without_table("t")
        self.refused(InvalidOperation, read_rows, RING, less)
        self.refused(InvalidOperation, left_by, RING, less, ((0, 1),))
        self.refused(InvalidOperation, left_by, RING, less, None)
        self.refused(InvalidProgram, left_by, RING, STORE, None)
        self.refused(InvalidProgram, count_copies, PATH, None, None)


if __name__ == "__main__":
    unittest.main()
