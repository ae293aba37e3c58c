"""Points 0.16, 7.3 and the functions of joinhouse.count.alike on stores."""

import itertools
import math
import random
import unittest

from joinhouse.base.questions import Question
from joinhouse.base.readings import count_readings
from joinhouse.base.stores import Store, fits
from joinhouse.count.alike import (
    are_alike_stores,
    count_injections,
    is_parting_question,
    is_store_alikeness,
    parting_question,
    question_of,
    store_alikeness,
)
from joinhouse.errors import InvalidOperation, InvalidStore, TooMany
from tests.brute import all_readings, asking, edges, shuffled, some_store, table
from tests.samples import PATH, RING, SIXTY, SIXTY_ONE, STORE, VALUES, RefusingCase

LEFT = table("e", (1, 2), (2, 1), (3, 4), (4, 3))
RIGHT = table("e", (1, 2), (2, 3), (3, 4), (4, 1))
EMPTY = Store({"e": 2}, {})


def all_alikenesses(one, other):
    """All renamings of one store to another one, one by one."""
    if one.tables != other.tables or len(one.domain) != len(other.domain):
        return []
    found = []
    for values in itertools.permutations(other.domain):
        led = dict(zip(one.domain, values))
        if one.renamed(led) == other:
            found.append(led)
    return found


def all_injections(one, other):
    """The number of one to one dicts that make rows of rows, by a search through all."""
    many = 0
    for values in itertools.permutations(other.domain, len(one.domain)):
        led = dict(zip(one.domain, values))
        many += all((name, tuple(led[value] for value in row)) in other for name, row in one)
    return many


def ring(many, begin=0):
    """The rows of a ring of values."""
    return [(begin + at, begin + (at + 1) % many) for at in range(many)]


def regular(chance, many, degree):
    """The pairs of a graph by chance in which each value has equally many neighbours."""
    while True:
        ends = [at for at in range(many) for _ in range(degree)]
        chance.shuffle(ends)
        pairs = {tuple(sorted(ends[at:at + 2])) for at in range(0, len(ends), 2)}
        if len(pairs) == many * degree // 2 and all(x != y for x, y in pairs):
            return sorted(pairs)


def both_ways(rows):
    """The store of some pairs, each both ways."""
    return table("e", *sorted({pair for x, y in rows for pair in ((x, y), (y, x))}))


def some_pairs(chance, many, values=4):
    """Pairs of stores with the same tables: alike ones, ones with a row exchanged, and others."""
    for _ in range(many):
        one = some_store(chance, tables="rtw", values=values, most=3)
        yield one, some_store(chance, tables="rtw", values=values, most=3)
        yield one, shuffled(chance, one)
        other = shuffled(chance, one)
        if one.rows("r"):
            less = other.without_row("r", other.rows("r")[0])
            row = tuple(chance.choices(other.domain, k=2))
            yield one, less
            yield one, less if ("r", row) in less else less.with_row("r", row)


class AlikeStoresTest(RefusingCase):

    def check(self, one, other, right):
        """Checks whether two stores are alike, and what is told."""
        self.assertIs(are_alike_stores(one, other), right)
        found = store_alikeness(one, other)
        if right:
            self.assertEqual(tuple(found), one.domain)
            self.assertEqual(one.renamed(found), other)
            self.assertIs(is_store_alikeness(one, other, found), True)
        else:
            self.assertIsNone(found)

    def test_against_all_renamings(self):
        seen = [0, 0]
        for one, other in some_pairs(random.Random(1), 60):
            right = all_alikenesses(one, other)
            self.check(one, other, bool(right))
            self.check(other, one, bool(right))
            seen[bool(right)] += 1
        self.assertGreater(min(seen), 50)

    def test_graphs_of_few_values(self):
        chance = random.Random(2)
        pairs = list(itertools.product(range(4), repeat=2))
        for _ in range(150):
            many = chance.randint(1, 10)
            one, other = [table("e", *chance.sample(pairs, many)) for _ in range(2)]
            right = bool(all_alikenesses(one, other))
            self.check(one, other, right)
            self.check(one, shuffled(chance, one), True)

    def test_judged(self):
        for one, other in some_pairs(random.Random(3), 12, values=3):
            right = all_alikenesses(one, other)
            for values in itertools.product((*other.domain, SIXTY), repeat=len(one.domain)):
                value = dict(zip(one.domain, values))
                self.assertIs(is_store_alikeness(one, other, value), value in right)

    def test_no_alikeness(self):
        one, other = table("r", (0, 1), (1, 2)), table("r", (1, 0), (0, 5))
        right = {0: 1, 1: 0, 2: 5}
        self.assertIs(is_store_alikeness(one, other, right), True)
        self.assertIs(is_store_alikeness(one, other, dict(reversed(right.items()))), True)
        for value in (*VALUES, {0: 1, 1: 0}, {**right, 3: 7}, {**right, 2: 0}, {**right, 2: 6}, {**right, 2: [5]},
                      {**right, 2: None}, {**right, 2: SIXTY_ONE}, {**right, 2: -5}, {0: True, 1: 0, 2: 5},
                      {0: 1, 1: False, 2: 5}, {False: 1, True: 0, 2: 5}, {0: 1, True: 0, 2: 5}, {"0": 1, 1: 0, 2: 5},
                      tuple(right.items()), [1, 0, 5], {0: 1, 1: 0, 2: "5"}, {0: 1, 1: 0, 2: (5,)}):
            self.assertIs(is_store_alikeness(one, other, value), False, value)

    def test_tables(self):
        self.check(EMPTY, EMPTY, True)
        self.assertEqual(store_alikeness(EMPTY, EMPTY), {})
        self.assertIs(is_store_alikeness(EMPTY, EMPTY, {}), True)
        self.check(EMPTY, EMPTY.with_table("f", 1), False)
        self.check(EMPTY, Store({"e": 3}, {}), False)
        self.check(EMPTY, Store({"f": 2}, {}), False)
        self.assertIs(is_store_alikeness(EMPTY, Store({"f": 2}, {}), {}), False)
        self.check(EMPTY, LEFT, False)
        self.check(table("e", (1, 1)), table("e", (1, 2)), False)
        self.check(table("e", (1, 2)), table("e", (5, 4)), True)
        two = Store({"e": 1, "f": 1}, {"e": ((1,),), "f": ((2,),)})
        self.check(two, Store({"e": 1, "f": 1}, {"e": ((2,),), "f": ((1,),)}), True)
        self.check(two, Store({"e": 1, "f": 1}, {"e": ((1,),), "f": ((1,),)}), False)
        self.check(two, Store({"e": 1, "f": 1}, {"e": ((1,), (2,))}), False)

    def test_great_values(self):
        self.check(table("w", (SIXTY, 0, SIXTY - 1)), table("w", (3, SIXTY, 7)), True)

    def test_hard_pairs(self):
        self.check(LEFT, RIGHT, False)
        self.check(both_ways(ring(6)), both_ways(ring(3) + ring(3, 3)), False)
        rook = [(4 * a + b, 4 * c + d) for a, b, c, d in itertools.product(range(4), repeat=4) if (a == c) != (b == d)]
        steps = ((0, 1), (0, 3), (1, 0), (3, 0), (1, 1), (3, 3))
        other = [(4 * a + b, 4 * c + d) for a, b, c, d in itertools.product(range(4), repeat=4)
                 if ((c - a) % 4, (d - b) % 4) in steps]
        chance = random.Random(4)
        self.check(table("e", *rook), table("e", *other), False)
        self.check(table("e", *other), shuffled(chance, table("e", *other)), True)
        mixed = table("e", *rook, *[(x + 16, y + 16) for x, y in other], *[(x + 32, y + 32) for x, y in rook])
        self.check(mixed, shuffled(chance, mixed), True)
        self.check(mixed, table("e", *other, *[(x + 16, y + 16) for x, y in other],
                                *[(x + 32, y + 32) for x, y in rook]), False)

    def test_all_rows_but_some(self):
        """Nearly all rows of some colours are there, and it is the missing ones that tell values apart."""
        chance = random.Random(14)
        triples = list(itertools.permutations(range(6), 3))
        for many, one, other in (
            (6, ring(6), ring(3) + ring(3, 3)), (7, ring(7), ring(3) + ring(4, 3)),
            (8, ring(4) + ring(4, 4), ring(8)), (8, ring(2) + ring(6, 2), ring(3) + ring(5, 3)),
        ):
            for pairs in (list(itertools.permutations(range(many), 2)), list(itertools.product(range(many), repeat=2))):
                first, second = [table("e", *[pair for pair in pairs if pair not in left]) for left in (one, other)]
                self.check(first, second, False)
                self.check(first, shuffled(chance, first), True)
                self.check(first + second.renamed({at: at + many for at in range(many)}),
                           shuffled(chance, second + first.renamed({at: at + many for at in range(many)})), True)
        for left in (ring(6), ring(3) + ring(3, 3)):
            store = table("w", *[row for row in triples if row[:2] not in left])
            self.check(store, shuffled(chance, store), True)
            self.check(store, table("w", *[row for row in triples if row[1:] not in left]), False)

    def test_regular_graphs(self):
        """Where each value has equally many neighbours, rows tell nothing until a value is chosen."""
        chance = random.Random(13)
        parted = 0
        for many, degree in ((12, 3), (20, 3), (30, 3), (16, 4), (24, 4), (60, 3)):
            for _ in range(6):
                one, other = [both_ways(regular(chance, many, degree)) for _ in range(2)]
                self.check(one, shuffled(chance, one), True)
                rings = [edges(*[pair[0] + pair[1] for pair in zip(letters, letters[1:] + letters[0])])
                         for letters in ("abc", "abcd", "abcde")]
                if any(count_readings(question, one) != count_readings(question, other) for question in rings):
                    self.check(one, other, False)
                    parted += 1
                both = one + other.renamed({value: value + many for value in other.domain})
                self.check(both, shuffled(chance, both), True)
        self.assertGreater(parted, 15)

    def test_squares_of_values(self):
        """Rows, columns and signs of a square tell nothing of one another until some are chosen."""
        chance = random.Random(15)

        def square(many, sign):
            return table("w", *[(x, many + y, 2 * many + sign(x, y))
                                for x, y in itertools.product(range(many), repeat=2)])

        for many in (8, 16):
            turned = square(many, lambda x, y: (x + y) % many)
            crossed = square(many, lambda x, y: x ^ y)
            self.check(turned, shuffled(chance, turned), True)
            self.check(crossed, shuffled(chance, crossed), True)
            self.check(turned, crossed, False)
            self.check(turned, shuffled(chance, square(many, lambda x, y: (3 * x + y) % many)), True)
        large = square(30, lambda x, y: (x + y) % 30)
        self.check(large, shuffled(chance, large), True)
        self.check(large, square(30, lambda x, y: 6 * ((x // 6 + y // 6) % 5) + (x + y) % 6), True)
        self.check(square(16, lambda x, y: 4 * ((x // 4 + y // 4) % 4) + (x + y) % 4),
                   square(16, lambda x, y: (x + y) % 16), False)

    def test_points_and_lines(self):
        """Any two points are on one line, so that four of them have to be chosen."""
        chance = random.Random(16)
        for prime in (3, 7, 13):
            points = [(1, a, b) for a in range(prime) for b in range(prime)]
            points.extend([(0, 1, a) for a in range(prime)] + [(0, 0, 1)])
            store = table("e", *[(x, len(points) + y) for x, one in enumerate(points) for y, other in enumerate(points)
                                 if sum(map(int.__mul__, one, other)) % prime == 0])
            self.check(store, shuffled(chance, store), True)

    def test_ladders_and_grids(self):
        """All values look alike, and what parts the stores is far from each of them."""
        def ladder(many, turned):
            sides = [(2 * at + side, (2 * at + 2 + (side ^ turned if at == many - 1 else side)) % (2 * many)
                      if at < many - 1 else side ^ turned) for at in range(many) for side in (0, 1)]
            return both_ways([*sides, *[(2 * at, 2 * at + 1) for at in range(many)]])

        def grid(many, length, turned):
            ahead = [(x * length + y, x * length + (y + 1) % length) for x in range(many) for y in range(length)]
            up = [(x * length + y, (x + 1) % many * length + (y + (turned if x == many - 1 else 0)) % length)
                  for x in range(many) for y in range(length)]
            return table("e", *ahead, *up)

        chance = random.Random(17)
        for one, other in ((ladder(5, 0), ladder(5, 1)), (ladder(300, 0), ladder(300, 1)),
                           (grid(5, 7, 0), grid(5, 7, 2)), (grid(30, 40, 0), grid(30, 40, 1))):
            self.check(one, shuffled(chance, one), True)
            self.check(other, shuffled(chance, other), True)
            self.check(one, other, False)

    def test_pairs_that_are_exchanged(self):
        """Each pair of ends can be exchanged beside others, so that each choice has a twin, and all choices are right.

        In the other store one pair is exchanged alone, which no choice of the others can make good.
        """
        def gadgets(pairs, many, turned):
            rows, names = [], {}
            for node in range(many):
                ends = [at for at, pair in enumerate(pairs) if node in pair]
                for chosen in (chosen for size in range(0, len(ends) + 1, 2)
                               for chosen in itertools.combinations(ends, size)):
                    rows.extend([((node, chosen), (node, at, at in chosen)) for at in ends])
            for at, (x, y) in enumerate(pairs):
                rows.extend([((x, at, up), (y, at, up != (turned and at == 0))) for up in (False, True)])
            return both_ways([tuple(names.setdefault(end, len(names)) for end in row) for row in rows])

        chance = random.Random(18)
        for pairs, many in ((list(itertools.combinations(range(4), 2)), 4), (regular(chance, 16, 3), 16),
                            (list(itertools.combinations(range(6), 2)), 6)):
            one, other = gadgets(pairs, many, False), gadgets(pairs, many, True)
            self.check(one, shuffled(chance, one), True)
            self.check(other, shuffled(chance, other), True)
            self.check(one, other, False)

    def test_large_stores(self):
        chance = random.Random(5)
        hub = [(9999, at) for at in range(500)] + [pair for at in range(0, 498, 3) for pair in ring(3, at)]
        twins = [(2 * at + a, 2 * at + 2 + b) for at in range(700) for a in (0, 1) for b in (0, 1)]
        wide = {tuple(chance.choices(range(30), k=8)) for _ in range(3000)}
        for store in (
            table("e", *ring(3000)), both_ways(ring(1500)), table("t", *[(number,) for number in range(3000)]),
            table("e", *[(number, 3000 + number) for number in range(3000)]), table("e", *twins), table("e", *hub),
            table("e", *[pair for at in range(1000) for pair in ring(3, 3 * at)]), table("w", *wide),
            table("e", *itertools.permutations(range(55), 2)), both_ways([(at, at // 2) for at in range(1, 1400)]),
            both_ways([(x, x ^ 1 << bit) for x in range(256) for bit in range(8)]),
        ):
            self.check(store, shuffled(chance, store), True)
        self.check(table("e", *ring(3000)), table("e", *ring(1500), *ring(1500, 1500)), False)
        self.check(both_ways(ring(1500)), both_ways(ring(700) + ring(800, 700)), False)

    def test_rows_exchanged_in_large_stores(self):
        chance = random.Random(6)
        rows = sorted({(at, chance.randrange(1000)) for at in range(1000) for _ in range(3)})
        store = table("e", *rows)
        (a, b), (c, d) = rows[10], next(row for row in rows[900:] if row[1] != rows[10][1])
        left = [row for row in rows if row not in ((a, b), (c, d), (a, d), (c, b))]
        self.check(store, shuffled(chance, table("e", *left, (a, d), (c, b))), False)
        self.check(store, store.without_row("e", rows[0]), False)

    def test_returned_dicts_are_the_callers(self):
        store_alikeness(LEFT, LEFT).clear()
        self.assertEqual(len(store_alikeness(LEFT, LEFT)), 4)


class QuestionOfTest(RefusingCase):

    def test_letters_for_values(self):
        store = Store({"r": 2, "t": 1, "w": 3}, {"r": ((9, 2), (2, 2)), "w": ((SIXTY, 9, 0),)})
        self.assertEqual(str(question_of(store)), ": r(b b) r(c b) w(d c a)")
        self.assertEqual(question_of(table("e", (1, 2))), edges("ab"))
        self.assertEqual(question_of(STORE.without_row("t", (4, 6))).lines[-1], "asked")

    def test_clauses_are_the_rows(self):
        chance = random.Random(7)
        for _ in range(100):
            store = some_store(chance, most=2, values=3)
            if len(store):
                question = question_of(store)
                names = dict(zip(store.domain, "abcdefgh"))
                self.assertEqual(question.clauses, tuple(sorted(
                    (name, tuple(names[value] for value in row)) for name, row in store)))
                self.assertTrue(fits(store, question))
                self.assertEqual(question.asked, ())

    def test_numbers_of_rows_and_values(self):
        self.assertEqual(len(question_of(table("e", *ring(8)))), 8)
        self.refused(InvalidOperation, question_of, table("e", *ring(9)))
        self.refused(InvalidOperation, question_of, table("e", *itertools.product(range(3), repeat=2)))
        eight, nine = Store({"w": 8, "t": 1}, {"w": (tuple(range(8)),)}), (8,)
        self.assertEqual(len(question_of(eight).columns), 8)
        self.refused(InvalidOperation, question_of, eight.with_row("t", nine))
        self.refused(InvalidOperation, question_of, EMPTY)

    def test_wrong_arguments(self):
        for value in VALUES:
            if not isinstance(value, Store):
                self.refused(InvalidStore, question_of, value)


class PartingQuestionTest(RefusingCase):

    def check(self, one, other):
        found = parting_question(one, other)
        self.assertIs(found is None, are_alike_stores(one, other))
        if found is not None:
            self.assertEqual((found.__class__, found.asked), (Question, ()))
            self.assertTrue(fits(one, found) and fits(other, found))
            self.assertNotEqual(len(all_readings(found, one)), len(all_readings(found, other)))
            self.assertIs(is_parting_question(one, other, found), True)
            self.assertIs(is_parting_question(other, one, found), True)
        return found

    def test_by_chance(self):
        found = []
        for one, other in some_pairs(random.Random(8), 40):
            if max(len(one), len(other)) <= 8:
                found.append(self.check(one, other) is None)
        self.assertGreater(min(found.count(True), found.count(False)), 30)

    def test_hard_pairs(self):
        for one, other in (
            (LEFT, RIGHT), (table("e", *ring(6)), table("e", *ring(3), *ring(3, 3))),
            (both_ways([(0, 1), (1, 2), (2, 3), (3, 0)]), both_ways([(0, 1), (1, 2), (2, 0), (2, 3)])),
            (table("e", *ring(6), (0, 2), (3, 5)), table("e", *ring(6), (0, 2), (2, 4))),
            (EMPTY, LEFT), (LEFT, EMPTY), (table("t", *[(at,) for at in range(6)]), table("t", (0,), (1,))),
            (table("t", *[(at,) for at in range(6)]), table("t", *[(at,) for at in range(5)])),
        ):
            self.assertIsNotNone(self.check(one, other))
        for one, other in ((EMPTY, EMPTY), (LEFT, LEFT.renamed({1: 3, 2: 4, 3: 1, 4: 2})), (RIGHT, RIGHT)):
            self.assertIsNone(self.check(one, other))

    def test_judged_by_counting(self):
        chance = random.Random(9)
        clauses = [("r", pair) for pair in itertools.product("ab", repeat=2)] + [("t", ("a",)), ("t", ("b",))]
        questions = [Question(tuple(sorted(chosen)), ()) for many in (1, 2, 3)
                     for chosen in itertools.combinations(clauses, many)]
        for one, other in some_pairs(chance, 15, values=3):
            for question in questions:
                right = len(all_readings(question, one)) != len(all_readings(question, other))
                self.assertIs(is_parting_question(one, other, question), right)

    def test_values_of_every_form(self):
        right = edges("ab", "ba")
        self.assertIs(is_parting_question(LEFT, RIGHT, right), True)
        for value in (*VALUES, right.asking("a"), right.clauses, right.lines, str(right), (right,), edges("ab"),
                      right.retabled({"e": "f"}), asking("e a b c"), RING, PATH.asking(), LEFT, None):
            self.assertIs(is_parting_question(LEFT, RIGHT, value), False, value)

    def test_limits_in_their_order(self):
        six, seven = table("e", *ring(6)), table("e", *ring(7))
        nine = table("e", *itertools.product(range(3), repeat=2))
        both = table("e", *ring(7), (0, 0), (1, 1))
        self.assertIsNone(parting_question(six, six))
        for one, other in ((six, seven), (seven, six), (seven, seven), (both, six), (seven, nine), (nine, seven)):
            self.refused(TooMany, parting_question, one, other, keeps=("limit", 6))
        for one, other in ((six, nine), (nine, six), (nine, nine)):
            self.refused(TooMany, parting_question, one, other, keeps=("limit", 8))
        other = Store({"e": 2, "t": 1}, {"e": tuple(ring(7))})
        for one, second in ((other, seven), (nine, other)):
            self.refused(InvalidOperation, parting_question, one, second)
            self.refused(InvalidOperation, is_parting_question, one, second, edges("ab"))

    def test_limit_of_readings(self):
        many = [table("t", *[(at,) for at in range(number)]) for number in (27, 28)]
        three = asking("t a", "t b", "t c")
        self.assertIs(is_parting_question(many[0], many[0], three), False)
        self.assertIs(is_parting_question(many[0], table("t", (1,)), three), True)
        self.refused(TooMany, is_parting_question, many[0], many[1], three, keeps=("limit", 20000))
        self.refused(TooMany, is_parting_question, many[1], many[0], three, keeps=("limit", 20000))
        self.assertIs(is_parting_question(many[0], many[1], three.asking("a")), False)
        self.assertIs(is_parting_question(many[0], many[1], asking("t a", "t b")), True)
        self.assertIs(is_parting_question(many[0], many[1], asking("t a", "t b", "t c", "u a")), False)


class InjectionsTest(RefusingCase):

    def test_against_all_dicts(self):
        chance = random.Random(10)
        found = 0
        for _ in range(250):
            tables = chance.choice(("rt", "rt", "tw"))
            one = some_store(chance, tables=tables, values=chance.randint(1, 4), most=2)
            other = some_store(chance, tables=tables, values=4, most=chance.choice((6, 16)))
            many = count_injections(one, other)
            self.assertEqual(many, all_injections(one, other))
            self.assertEqual(count_injections(one, one), all_injections(one, one))
            found += many > 0
        self.assertGreater(found, 30)

    def test_graphs(self):
        chance = random.Random(11)
        pairs = list(itertools.product(range(5), repeat=2))
        for _ in range(60):
            one = table("e", *chance.sample(list(itertools.product(range(4), repeat=2)), chance.randint(1, 4)))
            other = table("e", *chance.sample(pairs, chance.randint(1, 20)))
            self.assertEqual(count_injections(one, other), all_injections(one, other))

    def test_six_values(self):
        self.assertEqual(count_injections(table("e", *ring(6)), table("e", *ring(6))), 6)
        self.assertEqual(count_injections(both_ways(ring(6)), both_ways(ring(6))), 12)
        self.assertEqual(count_injections(table("e", *ring(6)), table("e", *ring(3), *ring(3, 3))), 0)
        three = table("e", (0, 1), (2, 3), (4, 5))
        self.assertEqual((count_injections(three, three), count_injections(three, table("e", *ring(6)))), (6, 12))
        loose = table("t", *[(at,) for at in range(6)])
        self.assertEqual(count_injections(loose, loose), 720)
        self.assertEqual(count_injections(loose, table("t", *[(at,) for at in range(5)])), 0)

    def test_values_that_can_be_exchanged(self):
        """Some values stand in rows together and can be exchanged, with other rows around them or without."""
        chance = random.Random(19)
        three = list(itertools.permutations(range(3), 2))
        around = ([], [(0, 3), (1, 3), (2, 3)], [(3, 0), (3, 1), (3, 2), (3, 3)], [(0, 0), (1, 1), (2, 2)], [(0, 3)],
                  [(3, 4), (4, 3)], [(3, 4)])
        pairs = list(itertools.product(range(6), repeat=2))
        for rows in around:
            one = table("e", *three, *rows)
            for many in (20, 28, 33):
                other = table("e", *chance.sample(pairs, many))
                self.assertEqual(count_injections(one, other), all_injections(one, other))
        triples = list(itertools.permutations(range(5), 3))
        for rows in (triples[:1], [row for row in triples if set(row) == {0, 1, 2}], [(0, 1, 2), (1, 0, 2)],
                     [(0, 1, 2), (0, 2, 1), (3, 1, 2), (3, 2, 1)], [(0, 0, 1), (1, 1, 0)], [(0, 0, 1), (1, 1, 0), (2, 2, 2)]):
            one = table("w", *rows)
            for many in (60, 100):
                other = table("w", *chance.sample(list(itertools.product(range(5), repeat=3)), many))
                self.assertEqual(count_injections(one, other), all_injections(one, other))
                self.assertEqual(count_injections(one, one), all_injections(one, one))

    def test_stores_without_rows(self):
        self.assertEqual(count_injections(EMPTY, EMPTY), 1)
        self.assertEqual(count_injections(EMPTY, LEFT), 1)
        self.assertEqual(count_injections(LEFT, EMPTY), 0)

    def test_large_stores(self):
        loose = table("t", *[(at,) for at in range(6)])
        many = table("t", *[(at,) for at in range(3000)])
        self.assertEqual(count_injections(loose, many), math.perm(3000, 6))
        self.assertEqual(count_injections(table("e", *ring(6)), table("e", *ring(3000))), 0)
        self.assertEqual(count_injections(table("e", (0, 1), (1, 2), (2, 3)), table("e", *ring(3000))), 3000)
        for few, many in ((3, 55), (4, 55), (5, 40), (6, 25)):
            self.assertEqual(count_injections(*[table("e", *itertools.permutations(range(number), 2))
                                                for number in (few, many)]), math.perm(many, few))
        star = table("e", *[(0, at) for at in range(1, 6)])
        hub = both_ways([(0, at) for at in range(1, 1500)])
        self.assertEqual(count_injections(star, hub), math.perm(1499, 5))
        self.assertEqual(count_injections(both_ways([(0, 1), (1, 2)]), hub), math.perm(1499, 2))
        self.assertEqual(count_injections(both_ways([(0, 1), (1, 2), (2, 3)]), hub), 0)
        chance = random.Random(12)
        wide = table("w", *{tuple(chance.choices(range(6), k=8)) for _ in range(2990)})
        self.assertEqual(count_injections(wide, wide), 1)

    def test_limit_of_values(self):
        seven = table("e", *ring(7))
        self.refused(TooMany, count_injections, seven, seven, keeps=("limit", 6))
        self.refused(TooMany, count_injections, seven, EMPTY, keeps=("limit", 6))
        self.assertEqual(count_injections(EMPTY, seven), 1)
        self.assertEqual(count_injections(table("e", *ring(6)), seven), 0)
        self.refused(InvalidOperation, count_injections, seven, EMPTY.with_table("f", 1))


class RefusedCallsTest(RefusingCase):

    def test_stores(self):
        for value in VALUES:
            if not isinstance(value, Store):
                for function in (are_alike_stores, store_alikeness, parting_question, count_injections):
                    self.refused(InvalidStore, function, value, LEFT)
                    self.refused(InvalidStore, function, LEFT, value)
                    self.refused(InvalidStore, function, value, value)
                for function in (is_store_alikeness, is_parting_question):
                    self.refused(InvalidStore, function, value, LEFT, {})
                    self.refused(InvalidStore, function, LEFT, value, edges("ab"))
                    self.refused(InvalidStore, function, value, value, value)

    def test_unlike_tables(self):
        for other in (EMPTY.with_table("f", 1), Store({"e": 3}, {}), Store({"f": 2}, {})):
            for function in (parting_question, count_injections):
                self.refused(InvalidOperation, function, LEFT, other)
                self.refused(InvalidOperation, function, other, LEFT)
            for value in (*VALUES, edges("ab")):
                self.refused(InvalidOperation, is_parting_question, LEFT, other, value)
                self.assertIs(is_store_alikeness(LEFT, other, value), False)

    def test_unlike_counts_of_unlike_stores(self):
        self.assertNotEqual(count_readings(edges("ab", "ba"), LEFT), count_readings(edges("ab", "ba"), RIGHT))


if __name__ == "__main__":
    unittest.main()
