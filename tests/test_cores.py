"""Points 6.1, 6.2 and the functions of joinhouse.fold.cores."""

import inspect
import itertools
import random
import unittest

from joinhouse.base.questions import Question, are_alike
from joinhouse.errors import InvalidOperation, InvalidQuestion, TooMany
from joinhouse.fold.cores import (
    core_of,
    count_turns,
    each_core,
    folding_onto,
    is_core,
    is_core_of,
    is_folding,
    merging_map,
    spare_clauses,
)
from joinhouse.fold.maps import has_all_answers, is_map, same_answers
from tests.brute import all_maps, all_parts, asking, edges, some_question
from tests.samples import PATH, RING, STORE, TWICE, VALUES, RefusingCase

SIX = edges("ab", "ba", "bc", "cb", "cd", "dc")
CALLS = (is_core, core_of, each_core, merging_map, spare_clauses, count_turns)
KINDS = (
    PATH, RING, TWICE, SIX, TWICE.asking(), TWICE.asking("a", "c"), TWICE.asking("b"), PATH.asking(),
    edges("ab", "bc", "ca"), edges("ab", "bc", "cd"), edges("ab", "cb", "cd"), edges("aa", "ab"),
    edges("ab", "ba", "cd"),
    edges("ab", "bc", "cd", "da"), edges("ab", "ba", "bc", "cb", "ac", "ca"),
    asking("t a", "t b", "t c", "asked b"), asking("t a", "t b", "t c", "asked c a"),
    asking("w a b c", "w a b d", "w d b c", "asked a"), asking("r a b", "s a b", "r c b", "s a d"),
)


def merges(names):
    return len(set(names.values())) < len(names)


def is_core_by_maps(question):
    return not any(merges(names) for names in all_maps(question, question))


def cores_by_parts(question):
    """All cores, ascending by their clauses, by a search through all parts."""
    found = [part for part in all_parts(question) if is_core_by_maps(part) and all_maps(question, part)]
    return sorted(found, key=lambda part: part.clauses)


class AgainstAllPartsTest(RefusingCase):

    def check(self, question):
        maps = all_maps(question, question)
        right = cores_by_parts(question)
        core = is_core_by_maps(question)
        self.assertIs(is_core(question), core)
        self.assertEqual(list(each_core(question)), right)
        self.assertIn(core_of(question), right)
        self.assertEqual(core, right == [question])
        names = merging_map(question)
        if core:
            self.assertIsNone(names)
        else:
            self.assertIn(names, maps)
            self.assertTrue(merges(names))
            self.assertEqual(list(names), list(question.columns))
        self.assertEqual(count_turns(question), len([names for names in maps if not merges(names)]))
        self.check_spare(question)
        for part in all_parts(question):
            self.assertIs(is_core_of(question, part), part in right)
        for part in right:
            self.check_folding(question, part, maps)
            self.assertTrue(are_alike(part, right[0]))
            self.assertEqual(count_turns(part), count_turns(right[0]))
            self.assertTrue(same_answers(part, question))
        return right

    def check_spare(self, question):
        spare = []
        for clause in question.clauses:
            part = question.without_clause(clause) if len(question) > 1 else None
            if part is not None and part.asked == question.asked and all_maps(question, part):
                spare.append(clause)
        self.assertEqual(spare_clauses(question), tuple(spare))
        self.assertIs(is_core(question), not spare)

    def check_folding(self, question, core, maps):
        names = folding_onto(question, core)
        self.assertIn(names, maps)
        self.assertEqual(set(names.values()), set(core.columns))
        self.assertTrue(all(names[column] == column for column in core.columns))
        self.assertIs(is_folding(question, names), True)
        self.assertEqual(list(names), list(question.columns))

    def test_each_kind(self):
        for question in KINDS:
            self.check(question)

    def test_by_chance(self):
        chance = random.Random(1)
        found = []
        for at in range(120):
            question = some_question(chance, letters="abcd", tables="r" if at % 2 else "rtw", most=5,
                                     many=chance.choice((0, 0, 1, 2)))
            right = self.check(question)
            found.append((len(question) > len(right[0]), len(right) > 1))
        self.assertGreater(found.count((True, True)), 5)
        self.assertGreater(found.count((True, False)), 5)
        self.assertGreater(found.count((False, False)), 10)

    def test_more_clauses(self):
        chance = random.Random(2)
        for _ in range(6):
            self.check(some_question(chance, letters="abcde", tables="r", most=8, many=0))

    def test_foldings(self):
        chance = random.Random(3)
        for _ in range(30):
            question = some_question(chance, letters="abc", tables="rt", most=4)
            maps = all_maps(question, question)
            for names in itertools.product((*question.columns, "q"), repeat=len(question.columns)):
                value = dict(zip(question.columns, names))
                right = value in maps and all(value[name] == name for name in value.values())
                self.assertIs(is_folding(question, value), right)
            for value in VALUES:
                self.assertIs(is_folding(question, value), False)

    def test_no_foldings(self):
        folding = {"a": "a", "b": "b", "c": "a"}
        self.assertIs(is_folding(TWICE, folding), True)
        self.assertIs(is_folding(TWICE.asking(), {"a": "c", "b": "b", "c": "a"}), False)
        self.assertIs(is_folding(TWICE.asking(), {"a": "c", "b": "b", "c": "c"}), True)
        self.assertIs(is_folding(TWICE, {"a": "c", "b": "b", "c": "c"}), False)
        for value in ({"a": "a", "b": "b"}, {**folding, "d": "a"}, {**folding, "c": "b"}, {**folding, "c": None},
                      {**folding, "c": ["a"]}, {**folding, "c": True}, {**folding, True: "a"}, tuple(folding.items())):
            self.assertIs(is_folding(TWICE, value), False, value)

    def test_renamed_questions(self):
        chance = random.Random(4)
        for question in KINDS:
            names = dict(zip(question.columns, chance.sample("abcdefxyz", len(question.columns))))
            other = question.renamed(names)
            self.assertEqual(sorted(core.renamed({c: names[c] for c in core.columns}).clauses
                                    for core in each_core(question)), [core.clauses for core in each_core(other)])
            self.assertTrue(are_alike(core_of(other), core_of(question)))
            self.assertIs(is_core(other), is_core(question))
            self.assertEqual(len(spare_clauses(other)), len(spare_clauses(question)))
            self.assertEqual(count_turns(other), count_turns(question))

    def test_same_answers_and_alike_cores(self):
        chance = random.Random(5)
        same = 0
        for _ in range(150):
            one, other = [some_question(chance, letters="abc", tables="r", most=4, many=1) for _ in range(2)]
            self.assertIs(are_alike(core_of(one), core_of(other)), same_answers(one, other))
            if same_answers(one, other):
                same += 1
                least = core_of(one)
                self.assertLessEqual((len(least), len(least.columns)), (len(other), len(other.columns)))
        self.assertGreater(same, 20)

    def test_no_cores(self):
        core = core_of(TWICE)
        self.assertIs(is_core_of(TWICE, core), True)
        self.assertIs(is_core_of(TWICE, Question((("r", ("a", "b")),), ("a",))), True)
        for value in (*VALUES, TWICE, core.asking(), core.asking("b"), core.asking("a", "b"), RING, STORE, core.clauses,
                      core.renamed({"a": "c", "b": "b"}), core.renamed({"a": "a", "b": "d"}), core.full,
                      Question((("r", ("c", "b")),), ()), Question((("r", ("c", "b")),), ("c",))):
            self.assertIs(is_core_of(TWICE, value), False, value)
            self.refused(InvalidOperation, folding_onto, TWICE, value)
        self.assertIs(is_core_of(SIX, edges("ab", "bc")), False)
        self.assertIs(is_core_of(SIX, edges("ab", "ba", "bc", "cb")), False)
        self.assertIs(is_core_of(SIX, edges("bc", "cb")), True)
        self.assertIs(is_core_of(SIX, edges("bc", "cb").renamed({"b": "x", "c": "y"})), False)

    def test_no_state_is_shared(self):
        merging_map(TWICE).clear()
        folding_onto(TWICE, core_of(TWICE)).clear()
        self.assertEqual(merging_map(TWICE), {"a": "a", "b": "b", "c": "a"})


class EightClausesTest(RefusingCase):

    def loose(self, many, asked=()):
        return Question(tuple(("t", (letter,)) for letter in "abcdefgh"[:many]), asked)

    def test_rings(self):
        eight = edges("ab", "bc", "cd", "de", "ef", "fg", "gh", "ha")
        two = edges("ab", "bc", "cd", "da", "ef", "fg", "gh", "he")
        self.assertIs(is_core(eight), True)
        self.assertEqual((list(each_core(eight)), count_turns(eight), spare_clauses(eight)), ([eight], 8, ()))
        self.assertEqual([core.columns for core in each_core(two)], [tuple("abcd"), tuple("efgh")])
        self.assertEqual((count_turns(two), len(spare_clauses(two))), (32, 8))
        for core in each_core(two):
            self.assertIs(is_folding(two, folding_onto(two, core)), True)

    def test_loose_columns(self):
        eight = self.loose(8)
        self.assertEqual([str(core) for core in each_core(eight)], [f": t({letter})" for letter in "abcdefgh"])
        self.assertEqual(len(spare_clauses(eight)), 8)
        self.assertEqual(list(each_core(eight.asking("c"))), [Question((("t", ("c",)),), ("c",))])
        self.assertEqual(core_of(eight.full), eight.full)
        self.assertEqual(count_turns(eight.full), 1)

    def test_limit_of_turns(self):
        self.assertEqual(count_turns(self.loose(7)), 5040)
        self.assertEqual(count_turns(self.loose(8, ("a",))), 5040)
        self.refused(TooMany, count_turns, self.loose(8), keeps=("limit", 20000))
        self.assertIs(is_core(self.loose(8)), False)

    def test_all_rows_of_five_values(self):
        five = edges("ab", "ac", "ad", "bc", "bd", "cd", "ce", "de")
        self.assertIs(is_core(five), True)
        self.assertEqual(list(each_core(five)), [five])


class RefusedCallsTest(RefusingCase):

    def test_questions(self):
        for value in VALUES:
            if not isinstance(value, Question):
                for function in CALLS:
                    if function is each_core:
                        self.refused(InvalidQuestion, lambda: next(each_core(value)))
                    else:
                        self.refused(InvalidQuestion, function, value)
                for function in (is_core_of, is_folding, folding_onto):
                    self.refused(InvalidQuestion, function, value, TWICE)
                    self.refused(InvalidQuestion, function, value, value)
                    self.refused(InvalidQuestion, function, value, {})

    def test_generators_wait(self):
        found = each_core(None)
        self.assertTrue(inspect.isgenerator(found))
        self.refused(InvalidQuestion, next, found)

    def test_what_a_merging_map_shows(self):
        self.assertIs(is_map(TWICE, TWICE, merging_map(TWICE)), True)
        self.assertTrue(has_all_answers(TWICE, core_of(TWICE)))


if __name__ == "__main__":
    unittest.main()
