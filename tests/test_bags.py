"""Points 0.20, 13.1 to 13.3 and the functions of joinhouse.width.bags."""

import itertools
import random
import unittest

from joinhouse.base.questions import Question
from joinhouse.base.stores import Store
from joinhouse.errors import InvalidOperation, InvalidQuestion, InvalidStore, TooMany
from joinhouse.shape.trees import join_tree
from joinhouse.width import bags
from joinhouse.width.bags import (
    bag_rows,
    bag_tree,
    count_by_bags,
    is_bag_tree,
    is_least_order,
    least_order,
    order_width,
    tree_by_order,
    width_by,
    width_of,
)
from tests.brute import (
    agrees_itself,
    all_readings,
    asking,
    clause_sets,
    crown_of,
    is_connected,
    ring_of,
    shape,
    some_question,
    some_shape,
    some_store,
    store_for,
)
from tests.samples import LOOP, PATH, RING, SIXTY_ONE, STORE, TWICE, VALUES, RefusingCase
from tests.test_layers import neighbours

TREE = ((("a", "b"), ("b", "c")), ((0, 1),))


def bags_of_order(question, order):
    """For each column in an order the set of it and of its neighbours when it is taken away."""
    near = neighbours(question)
    found = []
    for column in order:
        found.append({column} | near[column])
        for other in near[column]:
            near[other] = (near[other] | near[column]) - {column, other}
        del near[column]
    return found


def width_of_order(question, order):
    return max(len(bag) for bag in bags_of_order(question, order)) - 1


def is_bag_tree_by_words(question, tree):
    """Whether bags and links of the right forms are a bag tree, as point 13.1 tells it."""
    some, links = tree
    if len(links) != len(some) - 1 or not is_connected(range(len(some)), links):
        return False
    if not all(any(clause <= set(bag) for bag in some) for clause in clause_sets(question)):
        return False
    return all(is_connected([at for at, bag in enumerate(some) if column in bag], links) for column in question.columns)


def some_bag_tree(chance, question):
    """A bag tree by chance: that of an order, with more bags, in another order."""
    order = tuple(chance.sample(question.columns, len(question.columns)))
    some, links = tree_by_order(question, order)
    some, links = [set(bag) for bag in some], list(links)
    for _ in range(chance.randint(0, 5)):
        at = chance.randrange(len(some))
        bag = set(chance.sample(sorted(some[at]), chance.randint(1, len(some[at]))))
        links.append((at, len(some)))
        some.append(chance.choice((bag, set(some[at]))))
    if chance.random() < 0.3:
        column = chance.choice(question.columns)
        some = [bag | {column} for bag in some]
    places = chance.sample(range(len(some)), len(some))
    turned = tuple(tuple(sorted(some[places.index(at)])) for at in range(len(some)))
    return turned, tuple(sorted(tuple(sorted((places[one], places[other]))) for one, other in links))


def bag_rows_by_words(question, store, bag):
    """The bag rows of a bag, as point 13.3 tells them."""
    found = []
    for values in itertools.product(store.domain, repeat=len(bag)):
        led = dict(zip(bag, values))
        if all(any(agrees_itself(columns, row) and all(led.get(column, value) == value for column, value in zip(columns, row))
                   for row in store.rows(table)) for table, columns in question.clauses):
            found.append(values)
    return tuple(found)


class WidthsTest(RefusingCase):

    def check(self, question):
        """Checks against all orders."""
        widths = {order: width_of_order(question, order) for order in itertools.permutations(question.columns)}
        least = min(widths.values())
        self.assertEqual(width_of(question), least)
        self.assertEqual(widths[least_order(question)], least)
        for order, width in widths.items():
            self.assertEqual(order_width(question, order), width)
            self.assertIs(is_least_order(question, order), width == least)
            self.check_tree(question, order, width)
        tree = bag_tree(question)
        self.assertTrue(is_bag_tree_by_words(question, tree))
        self.assertIs(is_bag_tree(question, tree), True)
        self.assertEqual(width_by(question, tree), least)
        return least

    def check_tree(self, question, order, width):
        tree = tree_by_order(question, order)
        self.assertTrue(is_bag_tree_by_words(question, tree))
        self.assertIs(is_bag_tree(question, tree), True)
        self.assertLessEqual(width_by(question, tree), width)
        self.assertEqual(width_by(question, tree), max(len(bag) for bag in tree[0]) - 1)
        for some in bags_of_order(question, order):
            self.assertTrue(any(some <= set(bag) for bag in tree[0]))

    def test_by_chance(self):
        chance = random.Random(1)
        seen = set()
        for at in range(80):
            question = some_question(chance) if at % 4 == 0 else some_shape(chance, letters="abcd", wide=2 + at % 2)
            seen.add(self.check(question))
        for _ in range(25):
            seen.add(self.check(some_shape(chance, letters="abcde", many=8, wide=3)))
        self.assertLessEqual({0, 1, 2, 3}, seen)

    def test_known_widths(self):
        for question, width in (
            (PATH, 1), (RING, 2), (LOOP, 2), (TWICE, 1), (shape("a"), 0), (shape("aa", "b"), 0), (shape("abcdefgh"), 7),
            (ring_of("abcdefgh"), 2), (crown_of("abcdefgh"), 7), (shape("ab", "ac", "ad", "ae", "af", "ag", "ah"), 1),
            (shape(*"abcdefgh"), 0), (shape("abc", "bcd", "cde", "def", "efg", "fgh"), 2),
            (shape("ab", "bc", "cd", "ef", "fg", "gh", "aebf", "cgdh"), 3), (crown_of("abcde"), 4),
        ):
            self.assertEqual((width_of(question), width_by(question, bag_tree(question))), (width, width), str(question))

    def test_eight_columns(self):
        chance = random.Random(2)
        for _ in range(40):
            question = some_shape(chance, letters="abcdefgh", many=8, wide=chance.choice((2, 3)))
            width = width_of(question)
            self.assertTrue(is_bag_tree_by_words(question, bag_tree(question)))
            self.assertEqual(width_by(question, bag_tree(question)), width)
            self.assertEqual(width_of_order(question, least_order(question)), width)
            for _ in range(30):
                order = tuple(chance.sample(question.columns, len(question.columns)))
                self.assertGreaterEqual(width_of_order(question, order), width)
                self.check_tree(question, order, width_of_order(question, order))
            greatest = max(len(set(columns)) for _, columns in question.clauses) - 1
            self.assertGreaterEqual(width, greatest)
            if join_tree(question) is not None:
                self.assertEqual(width, greatest)

    def test_asked_columns_play_no_part(self):
        for question in (PATH, RING, LOOP):
            self.assertEqual(bag_tree(question), bag_tree(question.full))
            self.assertEqual(width_of(question), width_of(question.asking()))

    def test_no_orders(self):
        for value in (*VALUES, ("a", "b"), ("a", "b", "c", "c"), ["a", "b", "c"], "abc", ("a", "b", "d"), ("a", "b", True)):
            self.assertIs(is_least_order(PATH, value), False)
            self.refused(InvalidOperation, order_width, PATH, value)
            self.refused(InvalidOperation, tree_by_order, PATH, value)

    def test_wrong_questions(self):
        for value in VALUES:
            if not isinstance(value, Question):
                for function in (bag_tree, width_of, least_order):
                    self.refused(InvalidQuestion, function, value)
                for function in (is_bag_tree, width_by, order_width, tree_by_order, is_least_order):
                    self.refused(InvalidQuestion, function, value, ("a", "b", "c"))
                    self.refused(InvalidQuestion, function, value, value)
                self.refused(InvalidQuestion, bag_rows, value, None, None)
                self.refused(InvalidQuestion, count_by_bags, value, None, None)


class BagTreesTest(RefusingCase):

    def test_constants(self):
        self.assertEqual((bags.MAX_BAGS, bags.MAX_BAG_ROWS), (40, 20000))

    def test_against_the_words(self):
        chance = random.Random(3)
        seen = [0, 0]
        for _ in range(400):
            question = some_shape(chance, letters="abcd", most=4)
            tree = some_bag_tree(chance, question)
            self.assertTrue(is_bag_tree_by_words(question, tree))
            self.assertIs(is_bag_tree(question, tree), True)
            some, links = list(tree[0]), list(tree[1])
            kind = chance.randrange(4)
            at = chance.randrange(len(some))
            if kind == 0 and len(some[at]) > 1:
                some[at] = tuple(column for column in some[at] if column != chance.choice(some[at]))
            elif kind == 1 and links:
                links.remove(chance.choice(links))
                links.append(tuple(sorted(chance.sample(range(len(some)), 2))))
            elif kind == 2:
                other = chance.randrange(len(some))
                some[at], some[other] = some[other], some[at]
            else:
                some[at] = tuple(sorted({*some[at], chance.choice(question.columns)}))
            if some[at] and len(set(links)) == len(links):
                tree = tuple(some), tuple(sorted(links))
                right = is_bag_tree_by_words(question, tree)
                self.assertIs(is_bag_tree(question, tree), right)
                seen[right] += 1
        self.assertGreater(min(seen), 80)

    def test_many_bags(self):
        for many in (1, 39, 40, 41):
            value = (("a", "b", "c"),) * many, tuple((at, at + 1) for at in range(many - 1))
            self.assertIs(is_bag_tree(PATH, value), many <= 40)
            star = (("a", "b", "c"),) * many, tuple((0, at) for at in range(1, many))
            self.assertIs(is_bag_tree(PATH, star), many <= 40)
            self.assertEqual(width_by(PATH, value) if many <= 40 else 2, 2)

    def test_no_bag_trees(self):
        three = ((("a", "b"), ("b",), ("b", "c")), ((0, 1), (1, 2)))
        self.assertIs(is_bag_tree(PATH, TREE), True)
        self.assertIs(is_bag_tree(PATH, three), True)
        self.assertIs(is_bag_tree(PATH, (three[0], ((0, 2), (1, 2)))), True)
        for value in (
            *VALUES, (), ((), ()), list(TREE), (*TREE, ()), TREE[:1], (list(TREE[0]), TREE[1]), (TREE[0], [(0, 1)]),
            (TREE[0], ()), (TREE[0], ((1, 0),)), (TREE[0], ((0, 1), (0, 1))), (TREE[0], ((0, 2),)), (TREE[0], ((0, 0),)),
            (TREE[0], ((False, 1),)), (TREE[0], ((0, True),)), (TREE[0], ((0, 1, 1),)), (TREE[0], ([0, 1],)), (TREE[0], None),
            (TREE[0], ((-1, 1),)), (TREE[0], ((0, SIXTY_ONE),)), ((("b", "a"), ("b", "c")), ((0, 1),)),
            ((("a", "b"), ()), ((0, 1),)), ((("a", "b"), ("b", "c"), ()), ((0, 1), (1, 2))),
            ((("a", "b"), ("b", "b", "c")), ((0, 1),)), ((["a", "b"], ("b", "c")), ((0, 1),)),
            ((("a", "b"), ("b", "c", "d")), ((0, 1),)), ((("a", "b"), ("b", "c"), ("d",)), ((0, 1), (1, 2))),
            ((("a", "b"), "bc"), ((0, 1),)), ((("a", "b"), ("c",)), ((0, 1),)), ((("a", "c"), ("b", "c")), ((0, 1),)),
            (three[0], ((0, 1), (0, 2), (1, 2))), (three[0], ((1, 2), (0, 1))), (three[0], ((0, 1),)), (None, ()),
            ((("a", "b"), ("a",), ("b", "c")), ((0, 1), (1, 2))), ((("a", "b"), ("b", "c"), ("a",)), ((0, 1), (1, 2))),
            ((("a", "b"), ("b", "c", True)), ((0, 1),)), ((("a", "b"), ("b", 1)), ((0, 1),)),
        ):
            self.assertIs(is_bag_tree(PATH, value), False, value)
            self.refused(InvalidOperation, width_by, PATH, value)
            self.refused(InvalidOperation, count_by_bags, PATH, STORE, value)

    def test_links_left_out(self):
        loose = shape("a", "b", "c")
        for links in (((0, 1), (0, 2), (1, 2)), ((0, 1),), (), ((0, 1), (0, 2))):
            self.assertIs(is_bag_tree(loose, ((("a",), ("b",), ("c",)), links)), len(links) == 2)
        four = ((("a", "b"), ("b", "c"), ("c", "d"), ("d",)), ((0, 1), (1, 2), (2, 3)))
        path = shape("ab", "bc", "cd")
        self.assertIs(is_bag_tree(path, four), True)
        for links in itertools.combinations(list(itertools.combinations(range(4), 2)), 3):
            self.assertIs(is_bag_tree(path, (four[0], links)), is_bag_tree_by_words(path, (four[0], links)))


class BagRowsTest(RefusingCase):

    def test_against_a_search(self):
        chance = random.Random(4)
        found = 0
        for at in range(200):
            if at % 3:
                question = some_shape(chance, letters="abcd", most=4)
                store = store_for(chance, question, most=5, values=3, others=False)
            else:
                question = some_question(chance, letters="abcd", most=3)
                store = some_store(chance, most=6, values=3, great=0)
            for many in range(1, len(question.columns) + 1):
                for bag in itertools.combinations(question.columns, many):
                    right = bag_rows_by_words(question, store, bag)
                    self.assertEqual(bag_rows(question, store, bag), right)
                    found += len(right) > 1
        self.assertGreater(found, 300)

    def test_clauses_without_columns_of_the_bag(self):
        loose = shape("a", "bb")
        store = Store(loose.tables, {"ta": ((1,), (2,)), "tb": ((1, 2),)})
        self.assertEqual(bag_rows(loose, store, ("a",)), ())
        self.assertEqual(bag_rows(loose, store.with_row("tb", (3, 3)), ("a",)), ((1,), (2,)))
        self.assertEqual(bag_rows(loose, store, ("b",)), ())
        self.assertEqual(count_by_bags(loose, store, bag_tree(loose)), 0)

    def test_just_so_many_rows(self):
        three = shape("a", "b", "c")
        rows = {"ta": tuple((at,) for at in range(20)), "tb": tuple((at,) for at in range(1000)), "tc": ((0,), (1,))}
        store = Store(three.tables, rows)
        tree = ((("a", "b"), ("c",)), ((0, 1),))
        whole = ((("a", "b", "c"),), ())
        both = ((("a", "b"), ("a", "b", "c"), ("c",)), ((0, 1), (1, 2)))
        self.assertEqual(len(bag_rows(three, store, ("a", "b"))), 20000)
        self.assertEqual(bag_rows(three, store, ("a", "b"))[-1], (19, 999))
        self.assertEqual(count_by_bags(three, store, tree), 40000)
        self.refused(TooMany, bag_rows, three, store, ("a", "b", "c"), keeps=("limit", 20000))
        self.refused(TooMany, count_by_bags, three, store, whole, keeps=("limit", 20000))
        self.refused(TooMany, count_by_bags, three, store, both, keeps=("limit", 20000))
        more = store.with_row("ta", (20,))
        self.refused(TooMany, bag_rows, three, more, ("a", "b"), keeps=("limit", 20000))
        self.refused(TooMany, count_by_bags, three, more, tree, keeps=("limit", 20000))
        pair = shape("a", "b")
        prime = Store(pair.tables, {"ta": tuple((at,) for at in range(59)), "tb": tuple((at,) for at in range(339))})
        self.refused(TooMany, bag_rows, pair, prime, ("a", "b"), keeps=("limit", 20000))

    def test_counts_by_trees_of_every_maker(self):
        chance = random.Random(5)
        found = 0
        for at in range(250):
            if at % 3:
                question = some_shape(chance, letters="abcd", most=4)
                store = store_for(chance, question, most=8, values=3)
            else:
                question = some_question(chance, letters="abcd", most=3)
                store = some_store(chance, most=8, values=3)
            many = len(all_readings(question, store))
            for tree in (bag_tree(question), some_bag_tree(chance, question), some_bag_tree(chance, question)):
                self.assertEqual(count_by_bags(question, store, tree), many)
            found += many > 2
        self.assertGreater(found, 60)

    def test_great_numbers(self):
        path = shape("ab", "bc", "cd", "de", "ef", "fg", "gh")
        store = Store(path.tables, {table: tuple(itertools.product(range(20), repeat=2)) for table in path.tables})
        self.assertEqual(count_by_bags(path, store, bag_tree(path)), 20 ** 8)
        ring = ring_of("abcdefgh")
        store = Store(ring.tables, {table: tuple(itertools.product(range(19), repeat=2)) for table in ring.tables})
        self.assertEqual(count_by_bags(ring, store, bag_tree(ring)), 19 ** 8)
        loose = shape(*"abcdefgh")
        store = Store(loose.tables, {table: tuple((at,) for at in range(375)) for table in loose.tables})
        self.assertEqual(count_by_bags(loose, store, bag_tree(loose)), 375 ** 8)
        forty = (("a",), ("b",), ("c",), ("d",), ("e",), ("f",), ("g",), ("h",)) * 5
        links = tuple((at, at + 8) for at in range(32)) + tuple((at, at + 1) for at in range(7))
        self.assertEqual(count_by_bags(loose, store, (forty, tuple(sorted(links)))), 375 ** 8)

    def test_wrong_arguments(self):
        for value in VALUES:
            if not isinstance(value, Store):
                self.refused(InvalidStore, bag_rows, PATH, value, value)
                self.refused(InvalidStore, count_by_bags, PATH, value, value)
            if value not in (("a",), ("a", "b")):
                self.refused(InvalidOperation, bag_rows, PATH, STORE, value)
            self.refused(InvalidOperation, bag_rows, RING, STORE.without_table("t"), value)
            self.refused(InvalidOperation, count_by_bags, RING, STORE.without_table("t"), value)
        for value in ((), ("b", "a"), ("a", "a"), ("a", "d"), ["a"], "a", ("a", None), ("a", "b", "c", "d")):
            self.refused(InvalidOperation, bag_rows, PATH, STORE, value)
        self.assertEqual(bag_rows(asking("r a b"), STORE, ("b",)), ((2,), (3,)))


if __name__ == "__main__":
    unittest.main()
