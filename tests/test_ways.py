"""Points 0.24, 17.1, 17.2 and the functions of joinhouse.work.ways."""

import itertools
import random
import unittest

from joinhouse.base.questions import Question
from joinhouse.base.readings import count_readings
from joinhouse.base.stores import Store
from joinhouse.change.forests import crossing_of
from joinhouse.errors import InvalidOperation, InvalidQuestion, InvalidStore, TooMany, UnknownName
from joinhouse.shape.trees import is_join_tree, join_tree
from joinhouse.work.ways import WAYS, applies, count_all, count_by, counts_by_all, tree_counts
from tests.brute import all_readings, asking, crown_of, ring_of, shape, some_question, some_shape, some_store, store_for
from tests.samples import LOOP, PATH, RING, STORE, TWICE, VALUES, RefusingCase

LISTED = ("readings", "whence", "maps")
LOOSE = asking("r a", "t b")
WHEEL = asking("r a b", "s b c", "r c a", "asked a")


def drawn(chance, at):
    """A question and a store that fits it, by chance."""
    if at % 2:
        return some_question(chance, letters="abc", most=4), some_store(chance, most=5, values=3)
    question = some_shape(chance, letters="abcde"[:chance.randint(2, 5)], most=5)
    return question, store_for(chance, question, most=5)


def applying_by_words(question, many):
    """The ways that apply, by point 17.2's words."""
    found = []
    for way in WAYS:
        if way in LISTED:
            good = many <= 20000
        elif way in ("tree", "layers"):
            good = join_tree(question) is not None
        else:
            good = way == "bags" or crossing_of(question) is None
        if good:
            found.append(way)
    return found


def all_join_trees(question):
    """All join trees, by a search through all tuples of links."""
    every = list(itertools.combinations(range(len(question)), 2))
    return [links for links in itertools.combinations(every, len(question) - 1) if is_join_tree(question, links)]


class WaysTest(RefusingCase):

    def test_words(self):
        self.assertEqual(WAYS, ("readings", "tree", "layers", "bags", "whence", "forest", "maps"))

    def test_by_chance(self):
        chance = random.Random(1)
        seen = {way: 0 for way in WAYS}
        for at in range(250):
            question, store = drawn(chance, at)
            many = len(all_readings(question, store))
            right = applying_by_words(question, many)
            found = counts_by_all(question, store)
            self.assertEqual(list(found.items()), [(way, many) for way in right])
            for way in WAYS:
                self.assertIs(applies(question, store, way), way in right)
                if way in right:
                    self.assertEqual(count_by(question, store, way), many)
                    seen[way] += many > 0
                else:
                    self.refused(InvalidOperation, count_by, question, store, way)
            self.assertEqual(count_all(question, store), many)
        self.assertGreater(min(seen.values()), 30)

    def test_shapes(self):
        chance = random.Random(2)
        for question in (PATH, TWICE, RING, LOOP, WHEEL, LOOSE, ring_of("abcdefgh"), crown_of("abcd"), shape("aab", "bb"),
                         shape("ab", "ab", "ab"), shape(*"abcdefgh"), shape("abcdefgh"), asking("r a b", "r b a", "r a a"),
                         shape("ab", "bc", "cd", "de", "ef", "fg", "gh", "ha")):
            for _ in range(3):
                tables = question.tables
                store = Store(tables, {
                    name: tuple({tuple(chance.choices(range(3), k=tables[name])) for _ in range(5)}) for name in tables
                })
                if len(question.columns) <= 5:
                    self.assertEqual(count_readings(question, store), len(all_readings(question, store)))
                many = count_readings(question, store)
                self.assertEqual(counts_by_all(question, store), {way: many for way in applying_by_words(question, many)})

    def test_exactly_so_many_readings(self):
        for one, other, few in ((100, 200, True), (177, 113, False)):
            many = one * other
            store = Store({"r": 1, "t": 1}, {"r": tuple((at,) for at in range(one)), "t": tuple((at,) for at in range(other))})
            for way in LISTED:
                self.assertIs(applies(LOOSE, store, way), few)
                if few:
                    self.assertEqual(count_by(LOOSE, store, way), many)
                else:
                    self.refused(InvalidOperation, count_by, LOOSE, store, way)
            self.assertEqual(counts_by_all(LOOSE, store), {way: many for way in WAYS if few or way not in LISTED})
            self.assertEqual((count_all(LOOSE, store), many), (many, 20000 if few else 20001))

    def test_exactly_so_many_readings_without_a_join_tree(self):
        ring = asking("r a b", "s b c", "t a c", "u d", "v e")
        base = {"r": 2, "s": 2, "t": 2, "u": 1, "v": 1}
        one = {"r": ((0, 0),), "s": ((0, 0),), "t": ((0, 0),)}
        few = Store(base, {**one, "u": tuple((at,) for at in range(100)), "v": tuple((at,) for at in range(200))})
        many = Store(base, {**one, "u": tuple((at,) for at in range(177)), "v": tuple((at,) for at in range(113))})
        self.assertEqual(count_all(ring, few), 20000)
        self.assertEqual(counts_by_all(ring, few), {way: 20000 for way in ("readings", "bags", "whence", "maps")})
        self.refused(TooMany, count_all, ring, many, keeps=("limit", 20000))
        self.assertEqual(counts_by_all(ring, many), {"bags": 20001})
        self.assertEqual([way for way in WAYS if applies(ring, many, way)], ["bags"])

    def test_far_more_readings(self):
        wide = Store({"r": 2, "s": 2}, {"r": tuple((at, 0) for at in range(1000)), "s": tuple((0, at) for at in range(1000))})
        found = counts_by_all(PATH, wide)
        self.assertEqual(found, {way: 10 ** 6 for way in ("tree", "layers", "bags", "forest")})
        self.assertEqual(count_all(PATH, wide), 10 ** 6)
        star = shape("ab", "ac", "ad", "ae", "af", "ag", "ah", "a")
        store = Store(star.tables, {name: tuple((0, at) for at in range(400)) if name != "th" else ((0,),)
                                    for name in star.tables})
        self.assertEqual(counts_by_all(star, store), {way: 400 ** 7 for way in ("tree", "layers", "bags", "forest")})
        chain = shape("ab", "bc", "cd", "de", "ef", "fg", "gh", "h")
        rows = tuple(itertools.product(range(19), repeat=2))
        store = Store(chain.tables, {name: rows if name != "th" else tuple((at,) for at in range(19)) for name in chain.tables})
        self.assertEqual(counts_by_all(chain, store), {way: 19 ** 8 for way in ("tree", "layers", "bags")})
        self.refused(TooMany, count_all, RING, Store(RING.tables, {
            name: tuple(itertools.product(range(31), repeat=2)) for name in RING.tables}), keeps=("limit", 20000))

    def test_eight_clauses_with_eight_columns(self):
        chance = random.Random(3)
        for question in (ring_of("abcdefgh"), shape("abcd", "cdef", "efgh", "abgh", "ae", "bf", "cg", "dh"),
                         shape("abc", "bcd", "cde", "def", "efg", "fgh", "gh", "h")):
            share = 3000 // len(question)
            store = Store(question.tables, {
                name: tuple({tuple(chance.choices(range(12), k=width)) for _ in range(share)})
                for name, width in question.tables.items()
            })
            found = list(counts_by_all(question, store).values())
            self.assertEqual(found, [found[0]] * len(found))

    def test_wrong_arguments(self):
        for value in VALUES:
            if not isinstance(value, Question):
                for call in (applies, count_by, tree_counts):
                    self.refused(InvalidQuestion, call, value, value, value)
                for call in (counts_by_all, count_all):
                    self.refused(InvalidQuestion, call, value, value)
            if not isinstance(value, Store):
                for call in (applies, count_by, tree_counts):
                    self.refused(InvalidStore, call, PATH, value, value)
                for call in (counts_by_all, count_all):
                    self.refused(InvalidStore, call, PATH, value)
        small = STORE.without_table("t")
        for value in (*VALUES, "Tree", "tree ", "layer", ("tree",), ["tree"]):
            for call in (applies, count_by):
                self.refused(UnknownName, call, PATH, STORE, value, keeps=("word", value))
                # The word comes ahead of the store that does not fit.
                self.refused(UnknownName, call, RING, small, value, keeps=("word", value))
        for way in WAYS:
            self.refused(InvalidOperation, applies, RING, small, way)
            self.refused(InvalidOperation, count_by, RING, small, way)
        self.refused(InvalidOperation, counts_by_all, RING, small)
        self.refused(InvalidOperation, count_all, RING, small)
        self.refused(InvalidOperation, tree_counts, PATH, small.without_table("s"), ((0, 1),))
        for way in ("tree", "layers", "forest"):
            self.refused(InvalidOperation, count_by, RING, STORE, way)


class TreeCountsTest(RefusingCase):

    def check(self, question, store, links):
        """Checks the counts of the rows against a search."""
        readings = all_readings(question, store)
        found = tree_counts(question, store, links)
        self.assertEqual(len(found), len(question))
        for (name, columns), some in zip(question.clauses, found):
            read = {}
            for reading in readings:
                led = dict(zip(question.columns, reading))
                row = tuple(led[column] for column in columns)
                read[row] = read.get(row, 0) + 1
            self.assertEqual(some, tuple(read.get(row, 0) for row in store.rows(name)))
            self.assertEqual(sum(some), len(readings))

    def test_along_every_join_tree(self):
        chance = random.Random(4)
        trees = 0
        for at in range(120):
            question, store = drawn(chance, at)
            every = all_join_trees(question)
            self.assertEqual(bool(every), join_tree(question) is not None)
            for links in every[:12]:
                self.check(question, store, links)
            trees += len(every)
        self.assertGreater(trees, 100)

    def test_rows_that_do_not_agree_with_themselves(self):
        twice = asking("w x x y", "t y")
        store = Store({"w": 3, "t": 1}, {"w": ((1, 1, 2), (1, 2, 2), (3, 3, 2), (3, 3, 4)), "t": ((2,), (5,))})
        self.assertEqual(tree_counts(twice, store, ((0, 1),)), ((2, 0), (1, 0, 1, 0)))
        self.assertEqual(tree_counts(asking("w x x y"), store, ()), ((1, 0, 1, 1),))

    def test_great_stores(self):
        wide = Store({"r": 2, "s": 2}, {"r": tuple((at, 0) for at in range(1000)), "s": tuple((0, at) for at in range(1500))})
        self.assertEqual(tree_counts(PATH, wide, ((0, 1),)), ((1500,) * 1000, (1000,) * 1500))

    def test_links_that_are_no_join_tree(self):
        three = asking("r a b", "s b c", "t c d")
        store = Store({"r": 2, "s": 2, "t": 2}, {})
        self.assertEqual(tree_counts(three, store, ((0, 1), (1, 2))), ((), (), ()))
        for value in (*VALUES, ((0, 1), (0, 2)), ((0, 2), (1, 2)), ((0, 1),), ((1, 2), (0, 1)), ((0, 1), (2, 1)), [(0, 1), (1, 2)],
                      ((0, 1), (1, 2), (0, 2)), ((0, True), (1, 2)), ((False, 1), (1, 2)), ((0, 1), (1, 3)), ([0, 1], (1, 2))):
            self.refused(InvalidOperation, tree_counts, three, store, value)
        for value in (*VALUES, ((0, 1), (1, 2)), ((0, 1), (0, 2))):
            self.refused(InvalidOperation, tree_counts, RING, STORE, value)


if __name__ == "__main__":
    unittest.main()
