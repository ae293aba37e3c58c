"""Point 8.1 and the class of joinhouse.count.whence."""

import itertools
import random
import unittest

from joinhouse.count import whence
from joinhouse.count.whence import Whence
from joinhouse.errors import InvalidOperation, InvalidRow, InvalidTable
from tests.samples import PATH, SIXTY, SIXTY_ONE, VALUES, RefusingCase

R12, R13, S5, T = ("r", (1, 2)), ("r", (1, 3)), ("s", (5,)), ("t", (0, 0, 0, 0, 0, 0, 0, SIXTY))
NONE = Whence({})
ONE = Whence({(): 1})
SOME = Whence({((*R12, 2),): 1, ((*R12, 1), (*S5, 1)): 3, ((*R13, 64), (*T, 1)): SIXTY})
PAIRS = (R12, R13, S5)


def product(*parts):
    """A product of rows like R12, or of pairs of a row and of its times."""
    return tuple((*part, 1) if isinstance(part[0], str) else (*part[0], part[1]) for part in parts)


def some_whence(chance, most=4, times=3):
    parts = {}
    for _ in range(chance.randint(0, most)):
        rows = sorted(chance.sample(PAIRS, chance.randint(0, 3)))
        parts[product(*[(row, chance.randint(1, times)) for row in rows])] = chance.randint(1, 3)
    return Whence(parts)


def worth(parts, amounts):
    """What a polynomial comes to, reckoned by hand."""
    total = 0
    for some, number in parts.items():
        for name, row, times in some:
            for _ in range(times):
                number *= amounts.get((name, row), 1)
        total += number
    return total


POINTS = [dict(zip(PAIRS, amounts)) for amounts in itertools.product((0, 1, 2, 7, 100), repeat=3)]


class FormsTest(RefusingCase):

    def test_right_forms(self):
        for parts in (
            {}, {(): 1}, {(): SIXTY}, {product(R12): 1}, {product((R12, 64)): 2}, {product(R12, R13, S5, T): 5},
            {product(R12): 1, product((R12, 2)): 1, (): 9}, {product(("a", (0,))): 1},
            {product(("abcdefgh", (SIXTY,) * 8)): 1}, {tuple(("r", (at,), 1) for at in range(3000)): 1},
        ):
            made = Whence(parts)
            self.assertEqual((made.parts, len(made)), (parts, len(parts)))

    def test_wrong_forms(self):
        for parts in (
            {(): 0}, {(): -1}, {(): True}, {(): None}, {(): "1"}, {(): [1]}, {(): SIXTY_ONE}, {product((R12, 0)): 1},
            {product((R12, 65)): 1}, {product((R12, -1)): 1}, {product((R12, True)): 1}, {product((R12, None)): 1},
            {product(R13, R12): 1}, {product(R12, R12): 1}, {product((R12, 1), (R12, 2)): 1}, {product(S5, R12): 1},
            {(R12,): 1}, {R12: 1}, {(*R12, 1): 1}, {((*R12, 1, 1),): 1}, {product(("r", ())): 1},
            {product(("r", (-1,))): 1}, {product(("r", (True,))): 1}, {product(("r", (1,) * 9)): 1},
            {product(("r", (SIXTY_ONE,))): 1}, {product(("R", (1,))): 1}, {product(("", (1,))): 1},
            {product(("abcdefghi", (1,))): 1}, {(("r", "1", 1),): 1}, {((1, (1,), 1),): 1}, {None: 1}, {"": 1}, {1: 1},
            {(): 1, product((R12, 65)): 1}, {(): 1, product(R12): 0}, {((),): 1}, {(None,): 1}, {product(R12): 1, (): True},
        ):
            self.refused(InvalidOperation, Whence, parts)
        for value in VALUES:
            if value != {}:
                self.refused(InvalidOperation, Whence, value)

    def test_no_state_is_shared(self):
        parts = {product(S5): 1, product(R12): 2}
        made = Whence(parts)
        parts.clear()
        made.parts.clear()
        self.assertEqual(list(made.parts.items()), [(product(R12), 2), (product(S5), 1)])

    def test_limit(self):
        self.assertEqual(whence.MAX_LISTED, 20000)


class PartsTest(RefusingCase):

    def test_properties(self):
        for made, unknowns, ways, needed in (
            (NONE, (), 0, ()), (ONE, (), 1, ()), (Whence({(): 7}), (), 7, ()),
            (SOME, (R12, R13, S5, T), SIXTY + 4, ()),
            (Whence({product(R12, S5): 2, product((R12, 3), R13): 4}), (R12, R13, S5), 6, (R12,)),
            (Whence({product(R12, S5): 2, (): 4}), (R12, S5), 6, ()),
            (Whence({product(R12, R13, T): 1}), (R12, R13, T), 1, (R12, R13, T)),
            (Whence({product(R12, S5): 1, product(R12, R13, S5): 1}), (R12, R13, S5), 2, (R12, S5)),
        ):
            self.assertEqual((made.unknowns, made.ways, made.needed), (unknowns, ways, needed))

    def test_parts_are_ascending(self):
        keys = [(), product(R12), product((R12, 2)), product((R12, 2), S5), product(R13), product(S5), product(T)]
        self.assertEqual(list(Whence({key: 1 for key in reversed(keys)}).parts), sorted(keys))
        self.assertEqual(list(Whence({key: 1 for key in reversed(keys)})), sorted(keys))

    def test_members(self):
        for key in SOME:
            self.assertIn(key, SOME)
        self.assertEqual((list(NONE), len(NONE), len(ONE), len(SOME)), ([], 0, 1, 3))
        for value in (*VALUES, product(R12), product((R12, True)), R12, ((*R12, 2), (*S5, 1)), [(*R12, 2)],
                      (("r", [1, 2], 2),), (("r", (True, 2), 2),)):
            self.assertNotIn(value, SOME)
        self.assertIn((), ONE)
        self.assertNotIn((), NONE)
        self.assertNotIn(product((R12, True)), Whence({product(R12): 1}))

    def test_equality(self):
        self.assertEqual(SOME, Whence(dict(reversed(list(SOME.parts.items())))))
        self.assertTrue(SOME == Whence(SOME.parts) and not SOME != Whence(SOME.parts))
        for value in (*VALUES, NONE, ONE, SOME.parts, str(SOME), Whence({key: 1 for key in SOME})):
            self.assertTrue(SOME != value)
            self.assertFalse(SOME == value)
        self.assertFalse(NONE == {})

    def test_texts(self):
        for made, text in (
            (NONE, "0"), (ONE, "1"), (Whence({(): 2}), "2"), (Whence({product(R12): 1}), "r(1 2)"),
            (Whence({product(R12): 2}), "2 r(1 2)"), (Whence({product((R12, 2)): 1}), "r(1 2)^2"),
            (Whence({product((R12, 64), S5): 10}), "10 r(1 2)^64 s(5)"),
            (Whence({(): 1, product(R12): 2}), "1 + 2 r(1 2)"),
            (Whence({product((R12, 2), ("s", (2, 5))): 2, product(("t", (4, 6))): 1}), "2 r(1 2)^2 s(2 5) + t(4 6)"),
            (Whence({(): 3, product(R13): 1, product(S5): 1}), "3 + r(1 3) + s(5)"),
        ):
            self.assertEqual(str(made), text)


class OperationsTest(RefusingCase):

    def test_by_hand(self):
        one, other = Whence({product(R12): 2, (): 1}), Whence({product(R12): 3, product(S5): 1})
        self.assertEqual((one + other).parts, {(): 1, product(R12): 5, product(S5): 1})
        self.assertEqual((one * other).parts, {
            product(R12): 3, product(S5): 1, product((R12, 2)): 6, product(R12, S5): 2})
        self.assertEqual((one * NONE, NONE * one, one + NONE, NONE + one), (NONE, NONE, one, one))
        self.assertEqual((one * ONE, ONE * one), (one, one))
        self.assertEqual(str(one), "1 + 2 r(1 2)")

    def test_against_points(self):
        chance = random.Random(1)
        for _ in range(150):
            one, other = some_whence(chance), some_whence(chance)
            total, times = one + other, one * other
            for amounts in POINTS:
                self.assertEqual(total.evaluated(amounts), worth(one.parts, amounts) + worth(other.parts, amounts))
                self.assertEqual(times.evaluated(amounts), worth(one.parts, amounts) * worth(other.parts, amounts))
            self.assertEqual((total, times), (other + one, other * one))
            self.assertEqual(list(times.parts), sorted(times.parts))
            self.assertEqual(list(total.parts), sorted(total.parts))

    def test_other_kinds(self):
        for value in VALUES:
            for call in (lambda: SOME + value, lambda: SOME * value):
                with self.assertRaises(TypeError):
                    call()
        with self.assertRaises(TypeError):
            SOME + SOME.parts

    def test_evaluated(self):
        self.assertEqual(SOME.evaluated({}), SOME.ways)
        self.assertEqual(SOME.evaluated({R12: 0}), SIXTY)
        self.assertEqual(SOME.evaluated({R12: 5, R13: 0}), 25 + 15)
        self.assertEqual(SOME.evaluated({R12: 5, S5: 2, R13: 0, ("z", (9,)): 0}), 25 + 30)
        self.assertEqual(Whence({product((R12, 3)): 1}).evaluated({R12: SIXTY}), SIXTY ** 3)
        self.assertEqual((NONE.evaluated({R12: 4}), ONE.evaluated({R12: 0})), (0, 1))
        self.assertEqual(Whence({product((R13, 64)): 1}).evaluated({R13: 3}), 3 ** 64)

    def test_prices(self):
        some = Whence({product((R12, 2)): 1, product(R12, S5): 3, product((R13, 3), T): 2})
        self.assertEqual((some.least({}), some.greatest({})), (0, 0))
        self.assertEqual((some.least({R12: 3}), some.greatest({R12: 3})), (0, 6))
        self.assertEqual((some.least({R12: 3, S5: 1, R13: 2}), some.greatest({R12: 3, S5: 1, R13: 2})), (4, 6))
        self.assertEqual((some.least({T: 9, R12: 1}), some.greatest({T: 9, R13: SIXTY})), (1, 3 * SIXTY + 9))
        self.assertEqual((NONE.least({R12: 1}), NONE.greatest({})), (None, None))
        self.assertEqual((ONE.least({R12: 1}), ONE.greatest({R12: 1})), (0, 0))

    def test_wrong_amounts(self):
        for made in (SOME, NONE, ONE):
            for call in (made.evaluated, made.least, made.greatest):
                for value in (*VALUES, {R12: -1}, {R12: True}, {R12: SIXTY_ONE}, {R12: None}, {R12: "1"}, {R12: [1]},
                              {("r", (True, 2)): 1}, {("r", ()): 1}, {("R", (1,)): 1}, {("r", (1,) * 9): 1}, {"r": 1},
                              {(): 1}, {(*R12, 1): 1}, {R12: 1, None: 1}, [(R12, 1)], {("r", (-1,)): 1}):
                    if value != {}:
                        self.refused(InvalidOperation, call, value)

    def test_without(self):
        self.assertEqual(SOME.without(()), SOME)
        self.assertEqual(SOME.without((S5,)).parts, {product((R12, 2)): 1, product((R13, 64), T): SIXTY})
        self.assertEqual(SOME.without((R12,)).parts, {product((R13, 64), T): SIXTY})
        self.assertEqual(SOME.without((R12, T)), NONE)
        self.assertEqual(SOME.without((("a", (1,)), ("z", (1,) * 8))), SOME)
        self.assertEqual((ONE.without((R12,)), NONE.without((R12,))), (ONE, NONE))
        for value in (*VALUES, (S5, R12), (R12, R12), [R12], R12, (R12, None), (("r", (True, 2)),), (("r", ()),),
                      ((*R12, 1),), (("R", (1,)),), (("r", [1, 2]),)):
            if value not in ((), (("r", (1, 2)),)):
                self.refused(InvalidOperation, SOME.without, value)
                self.refused(InvalidOperation, NONE.without, value)

    def test_put_in(self):
        step = Whence({product(R12): 2, (): 1})
        self.assertEqual(Whence({product((R13, 2)): 1}).put_in(*R13, step).parts,
                         {(): 1, product(R12): 4, product((R12, 2)): 4})
        self.assertEqual(Whence({product((R12, 2), S5): 3}).put_in(*R12, Whence({product(R13): 2})).parts,
                         {product((R13, 2), S5): 12})
        self.assertEqual(SOME.put_in("z", (1,), step), SOME)
        self.assertEqual(SOME.put_in(*R12, NONE).parts, {product((R13, 64), T): SIXTY})
        self.assertEqual(SOME.put_in(*R13, NONE).parts, {product((R12, 2)): 1, product(R12, S5): 3})
        self.assertEqual(SOME.put_in(*R12, Whence({product(R12): 1})), SOME)
        self.assertEqual((NONE.put_in(*R12, step), ONE.put_in(*R12, NONE)), (NONE, ONE))
        self.assertEqual(Whence({product((R12, 64)): 1}).put_in(*R12, Whence({product(S5): 1, (): 1})).ways, 2 ** 64)

    def test_put_in_against_points(self):
        chance = random.Random(2)
        for _ in range(100):
            some, other = some_whence(chance), some_whence(chance, most=3, times=2)
            row = chance.choice(PAIRS)
            led = some.put_in(*row, other)
            for amounts in POINTS:
                inner = {**amounts, row: worth(other.parts, amounts)}
                self.assertEqual(led.evaluated(amounts), worth(some.parts, inner))

    def test_wrong_arguments_of_put_in(self):
        for value in VALUES:
            if value not in ("a", "r", "abcdefgh"):
                self.refused(InvalidTable, SOME.put_in, value, (1, 2), ONE)
                self.refused(InvalidTable, SOME.put_in, value, value, value)
            if value not in ((1,), (1, 2)):
                self.refused(InvalidRow, SOME.put_in, "r", value, ONE)
                self.refused(InvalidRow, SOME.put_in, "r", value, value)
            self.refused(InvalidOperation, SOME.put_in, "r", (1, 2), value)
            self.refused(InvalidOperation, NONE.put_in, "z", (1,), value)
        self.refused(InvalidRow, SOME.put_in, "r", (1,) * 9, ONE)
        self.refused(InvalidRow, SOME.put_in, "r", (-1,), PATH)

    def test_nothing_is_changed(self):
        before = (SOME.parts, str(SOME))
        SOME + ONE
        SOME * ONE
        SOME.put_in(*R12, ONE)
        SOME.without((R12,))
        self.assertEqual((SOME.parts, str(SOME)), before)


if __name__ == "__main__":
    unittest.main()
