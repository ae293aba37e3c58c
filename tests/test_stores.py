"""Points 0.8, 3.1 and the class of joinhouse.base.stores."""

import itertools
import unittest

from joinhouse.base import stores
from joinhouse.base.stores import Store
from joinhouse.base.words import is_name, is_row
from joinhouse.errors import (
    InvalidNumber,
    InvalidOperation,
    InvalidRow,
    InvalidStore,
    InvalidTable,
    ParseError,
    TooMany,
    UnknownName,
)
from tests.samples import PATH, SIXTY, SIXTY_ONE, STORE, VALUES, RefusingCase

SIXTEEN = {letter: 1 for letter in "abcdefghijklmnop"}
EMPTY = Store({"r": 2}, {})
FULL = Store({"r": 1, "s": 2}, {"r": tuple((number,) for number in range(2990)), "s": tuple((9, n) for n in range(10))})
WIDE = Store({"abcdefgh": 8, "z": 1}, {"abcdefgh": ((SIXTY,) * 8, (0,) * 8)})
ALL = (STORE, EMPTY, FULL, WIDE, Store(SIXTEEN, {}), Store(SIXTEEN, {"c": ((5,), (0,)), "b": ()}))


def parts(store):
    """All that a store has, as plain values."""
    return store.tables, {table: store.rows(table) for table in store.tables}


class CreationTest(RefusingCase):

    def test_constants(self):
        self.assertEqual((stores.MAX_TABLES, stores.MAX_ROWS), (16, 3000))

    def test_told_back(self):
        made = Store({"s": 1, "r": 2}, {"r": ((4, 3), (1, 2), (1, 1))})
        self.assertEqual(made.tables, {"r": 2, "s": 1})
        self.assertEqual(list(made.tables), ["r", "s"])
        self.assertEqual(made.rows("r"), ((1, 1), (1, 2), (4, 3)))
        self.assertEqual(made.rows("s"), ())

    def test_rows_by_number(self):
        self.assertEqual(Store({"r": 1}, {"r": ((10,), (9,), (100,))}).rows("r"), ((9,), (10,), (100,)))

    def test_numbers_of_tables(self):
        for many in range(20):
            tables = {letter: 1 for letter in "abcdefghijklmnopqrst"[:many]}
            if 1 <= many <= 16:
                self.assertEqual(Store(tables, {}).tables, tables)
            else:
                self.refused(InvalidStore, Store, tables, {})

    def test_widths(self):
        for width in range(12):
            if 1 <= width <= 8:
                self.assertEqual(Store({"r": width}, {"r": ((3,) * width,)}).tables, {"r": width})
            else:
                self.refused(InvalidStore, Store, {"r": width}, {})
        for width in VALUES:
            if width.__class__ is not int or not 1 <= width <= 8:
                self.refused(InvalidStore, Store, {"r": width}, {})
                self.refused(InvalidStore, Store, {"a": 1, "r": width}, {"a": ((1,),)})

    def test_names(self):
        for name in VALUES:
            if name.__class__ in (str, int, bool, None.__class__, tuple) and not is_name(name):
                try:
                    hash(name)
                except TypeError:
                    continue
                self.refused(InvalidStore, Store, {name: 1}, {})
                self.refused(InvalidStore, Store, {"a": 1, name: 1}, {})
                self.refused(InvalidStore, Store, {"a": 1}, {name: ()})

    def test_numbers_of_rows(self):
        rows = tuple((number,) for number in range(3001))
        self.assertEqual(len(Store({"r": 1}, {"r": rows[:3000]})), 3000)
        self.refused(InvalidStore, Store, {"r": 1}, {"r": rows})
        self.assertEqual(len(Store({"r": 1, "s": 1}, {"r": rows[:1500], "s": rows[:1500]})), 3000)
        self.refused(InvalidStore, Store, {"r": 1, "s": 1}, {"r": rows[:1500], "s": rows[:1501]})

    def test_rows(self):
        for row in VALUES + ((1,), (1, 2, 3), (1, SIXTY_ONE), (1, -1), (0, True), (False, 0), [1, 2], ((1,), 2)):
            if not (is_row(row) and len(row) == 2):
                self.refused(InvalidStore, Store, {"r": 2}, {"r": (row,)})
                self.refused(InvalidStore, Store, {"r": 2}, {"r": ((7, 7), row)})
        self.assertEqual(Store({"r": 2}, {"r": ((0, SIXTY),)}).rows("r"), ((0, SIXTY),))

    def test_a_row_twice(self):
        self.refused(InvalidStore, Store, {"r": 1}, {"r": ((1,), (2,), (1,))})
        self.assertEqual(len(Store({"r": 1, "s": 1}, {"r": ((1,),), "s": ((1,),)})), 2)

    def test_rows_of_tables_that_are_not_there(self):
        self.refused(InvalidStore, Store, {"r": 1}, {"s": ()})
        self.refused(InvalidStore, Store, {"r": 1}, {"r": ((1,),), "s": ((1,),)})

    def test_values_of_every_kind(self):
        for value in VALUES:
            if not (isinstance(value, dict) and value == {"r": 2}):
                self.refused(InvalidStore, Store, value, {})
            if not (isinstance(value, dict) and value == {}):
                self.refused(InvalidStore, Store, {"r": 2}, value)
            self.refused(InvalidStore, Store, value, value)
            if not (isinstance(value, tuple) and value == ()):
                self.refused(InvalidStore, Store, {"r": 2}, {"r": value})

    def test_no_state_is_shared(self):
        tables, rows = {"r": 1}, {"r": ((1,),)}
        made = Store(tables, rows)
        tables["s"] = 1
        rows["r"] = ()
        told = made.tables
        told["t"] = 2
        del told["r"]
        self.assertEqual(parts(made), ({"r": 1}, {"r": ((1,),)}))
        self.assertEqual((tables, rows), ({"r": 1, "s": 1}, {"r": ()}))

    def test_arguments_stay(self):
        tables, rows = {"s": 1, "r": 2}, {"s": ((2,), (1,))}
        Store(tables, rows)
        self.assertEqual((list(tables.items()), rows), ([("s", 1), ("r", 2)], {"s": ((2,), (1,))}))

    def test_it_never_changes(self):
        before = parts(STORE)
        STORE.with_row("t", (9, 9))
        STORE.without_row("t", (4, 6))
        STORE.with_table("z", 1)
        STORE.without_table("r")
        STORE.folded({number: 0 for number in STORE.domain})
        STORE + EMPTY
        STORE * STORE
        self.assertEqual(parts(STORE), before)


class LinesTest(RefusingCase):

    def test_lines_there_and_back(self):
        for store in ALL:
            self.assertEqual(parts(Store.from_lines(*store.lines)), parts(store))

    def test_lines_told(self):
        store = Store({"t": 1, "r": 2, "b": 8, "s": 1}, {"s": ((10,), (9,)), "r": ((1, 2), (0, SIXTY))})
        self.assertEqual(store.lines, ("table b 8", "table t 1", f"row r 0 {SIXTY}", "row r 1 2", "row s 9", "row s 10"))
        self.assertEqual(EMPTY.lines, ("table r 2",))

    def test_any_order(self):
        lines = ("table a 2", "row r 1 2", "row r 0 5", "table r 2", "row s 3")
        for order in itertools.permutations(lines):
            made = Store.from_lines(*order)
            self.assertEqual(parts(made), ({"a": 2, "r": 2, "s": 1}, {"a": (), "r": ((0, 5), (1, 2)), "s": ((3,),)}))

    def test_a_line_left_out(self):
        for at in range(len(STORE.lines)):
            made = Store.from_lines(*STORE.lines[:at], *STORE.lines[at + 1:])
            self.assertEqual(len(made), 6)
            self.assertEqual(set(made.lines), set(STORE.lines) - {STORE.lines[at]})

    def test_a_line_told_twice(self):
        lines = ("table a 2", "row r 1 2", "table r 2", "row s 3")
        for at, line in enumerate(lines):
            for place in range(len(lines) + 1):
                many = lines[:place] + (line,) + lines[place:]
                second = at + 1 if place <= at else place
                self.refused(ParseError, Store.from_lines, *many, keeps=("number", second))

    def test_widths_that_disagree(self):
        for lines in (
            ("table r 2", "table r 3"),
            ("table r 2", "table r 1", "row r 1"),
            ("table r 2", "row r 1"),
            ("table r 2", "row r 1 2 3"),
            ("row r 1", "table r 2"),
            ("row r 1 2", "row r 1"),
            ("row r 1", "row r 1 2", "table r 1"),
            ("row r 1 2 3 4 5 6 7 8", "row r 1 2 3 4 5 6 7"),
        ):
            self.refused(ParseError, Store.from_lines, *lines, keeps=("number", 1))
            self.refused(ParseError, Store.from_lines, "row a 1", *lines, "", keeps=("number", 2))
        self.refused(ParseError, Store.from_lines, "row r 1 2", "table r 2", "row r 3", keeps=("number", 2))

    def test_bent_lines(self):
        for line in (
            "", " ", "table", "table ", "table r", "table r ", "table  r 2", "table r  2", "table r 2 ", " table r 2",
            "table r 2\n", "table r 0", "table r 9", "table r 10", "table r 02", "table r +2", "table r -2", "table r a",
            "table r 2 2", "table R 2", "table abcdefghi 2", "table 2 r", "Table r 2", "tables r 2", "table r 2.0",
            "table r 1_0", f"table r {SIXTY}", f"table r {SIXTY_ONE}", "table r\t2", "table r 2,", "table a1 2",
            "row", "row ", "row r", "row r ", "row  r 1", "row r  1", "row r 1 ", " row r 1", "row r 1\n", "row r 01",
            "row r 00", "row r +1", "row r -1", "row r -0", "row r 1 -1", "row r 1 02", "row r a", "row r 1 a", "row R 1",
            "row abcdefghi 1", "row 1 2", "Row r 1", "rows r 1", "row r 1 2 3 4 5 6 7 8 9", "row r 1.0", "row r 1_000",
            f"row r {SIXTY_ONE}", f"row r 1 {SIXTY_ONE}", f"row r {10 ** 99}", "row r 1,2", "row r\t1", "row r (1)",
            "row r 0x1", "row r 1e3", "clause r a b", "asked", "r 1 2", "1", "row r 1\nrow r 2", "row r True",
            "row r " + "1" * 3994, "x" * 4000, "row r 1  2", "row r \u0661", "row r \u00b2",
        ):
            self.refused(ParseError, Store.from_lines, line, keeps=("number", 0))
            self.refused(ParseError, Store.from_lines, "row z 1", line, keeps=("number", 1))
            self.refused(ParseError, Store.from_lines, "row z 1", line, "no", 7, keeps=("number", 1))

    def test_values_that_are_no_lines(self):
        for value in VALUES:
            if not (isinstance(value, str) and value == "row r 1 2"):
                self.refused(ParseError, Store.from_lines, "row z 1", value, None, keeps=("number", 1))
                self.refused(ParseError, Store.from_lines, value, keeps=("number", 0))

    def test_edges(self):
        self.assertEqual(parts(Store.from_lines("table r 1")), ({"r": 1}, {"r": ()}))
        self.assertEqual(parts(Store.from_lines("table r 8")), ({"r": 8}, {"r": ()}))
        self.assertEqual(Store.from_lines("row r 0").rows("r"), ((0,),))
        self.assertEqual(Store.from_lines(f"row r {SIXTY} 0").rows("r"), ((SIXTY, 0),))
        self.assertEqual(Store.from_lines("row r 1 2 3 4 5 6 7 8").tables, {"r": 8})
        self.assertEqual(Store.from_lines("row row 1", "table table 2").tables, {"row": 1, "table": 2})
        self.assertEqual(Store.from_lines("table r 2", "row r 2 3").lines, ("row r 2 3",))

    def test_lines_of_no_store(self):
        self.refused(InvalidStore, Store.from_lines)
        many = [f"table {letter} 1" for letter in "abcdefghijklmnopq"]
        self.assertEqual(len(Store.from_lines(*many[:16]).tables), 16)
        self.refused(InvalidStore, Store.from_lines, *many)
        self.refused(InvalidStore, Store.from_lines, *many[:16], "row z 1")
        rows = [f"row r {number}" for number in range(3001)]
        self.assertEqual(len(Store.from_lines(*rows[:3000])), 3000)
        self.refused(InvalidStore, Store.from_lines, *rows)

    def test_parse_errors_come_first(self):
        many = [f"table {letter} 1" for letter in "abcdefghijklmnopq"]
        self.refused(ParseError, Store.from_lines, *many, "", keeps=("number", 17))
        rows = [f"row r {number}" for number in range(3001)]
        self.refused(ParseError, Store.from_lines, *rows, rows[5], keeps=("number", 3001))


class TellingTest(RefusingCase):

    def test_domain(self):
        self.assertEqual(STORE.domain, (1, 2, 3, 4, 5, 6))
        self.assertEqual(EMPTY.domain, ())
        self.assertEqual(Store({"r": 2, "s": 1}, {"r": ((10, 9), (9, 9)), "s": ((0,), (100,))}).domain, (0, 9, 10, 100))
        numbers = tuple(sorted([SIXTY, 10 ** 40, 10 ** 20, 2 ** 61, 33, 9, 1000, 17]))
        self.assertEqual(Store({"r": 8}, {"r": (tuple(reversed(numbers)),)}).domain, numbers)

    def test_rows_of_a_table(self):
        self.assertEqual(STORE.rows("r"), ((1, 2), (1, 3), (4, 3)))
        self.assertEqual(EMPTY.rows("r"), ())

    def test_rows_of_no_table(self):
        for value in VALUES + ("u", "rs", ("r",), ["r"]):
            if not (isinstance(value, str) and value == "r"):
                self.refused(UnknownName, STORE.rows, value, keeps=("word", value))

    def test_kinds(self):
        for store in ALL:
            self.assertIs(store.tables.__class__, dict)
            self.assertEqual(list(store.tables), sorted(store.tables))
            for told in (store.lines, store.domain) + tuple(store.rows(table) for table in store.tables):
                self.assertIs(told.__class__, tuple)
            for table in store.tables:
                self.assertEqual(store.rows(table), tuple(sorted(store.rows(table))))
            self.assertEqual(store.domain, tuple(sorted({number for _, row in store for number in row})))

    def test_equal_calls(self):
        for store in ALL:
            for name in ("tables", "lines", "domain"):
                self.assertEqual(getattr(store, name), getattr(store, name))


class RowChangingTest(RefusingCase):

    def test_with_row(self):
        made = STORE.with_row("r", (1, 0))
        self.assertEqual(made.rows("r"), ((1, 0), (1, 2), (1, 3), (4, 3)))
        self.assertEqual(made.without_row("r", (1, 0)), STORE)
        self.assertEqual(EMPTY.with_row("r", (SIXTY, 0)).lines, (f"row r {SIXTY} 0",))
        self.assertEqual(STORE.with_row("t", (1, 2)).rows("t"), ((1, 2), (4, 6)))

    def test_without_row(self):
        made = STORE.without_row("r", (1, 3))
        self.assertEqual((made.rows("r"), made.rows("s")), (((1, 2), (4, 3)), STORE.rows("s")))
        self.assertEqual(STORE.without_row("t", (4, 6)).tables, STORE.tables)
        self.assertEqual(EMPTY.with_row("r", (1, 1)).without_row("r", (1, 1)), EMPTY)

    def test_unknown_tables(self):
        for value in VALUES + ("u", ["r"]):
            if not (isinstance(value, str) and value == "r"):
                for call in (STORE.with_row, STORE.without_row):
                    self.refused(UnknownName, call, value, (1, 2), keeps=("word", value))
                    self.refused(UnknownName, call, value, value, keeps=("word", value))

    def test_no_rows(self):
        for value in VALUES + ((1,), (1, 2, 3), (1, True), (True, 3), (False, 3), (4, 3, 3), [4, 3], ((4,), 3)):
            if not (is_row(value) and len(value) == 2):
                self.refused(InvalidRow, STORE.with_row, "r", value)
                self.refused(InvalidRow, STORE.without_row, "r", value)
        self.refused(InvalidRow, STORE.with_row, "r", (1, 2))
        self.refused(InvalidRow, STORE.without_row, "r", (1, 4))
        self.refused(InvalidRow, STORE.without_row, "r", (2, 5))
        self.refused(InvalidRow, EMPTY.without_row, "r", (0, 0))

    def test_true_is_not_one(self):
        store = Store({"r": 1}, {"r": ((1,), (0,))})
        for value in ((True,), (False,)):
            self.refused(InvalidRow, store.without_row, "r", value)
            self.refused(InvalidRow, store.with_row, "r", value)

    def test_too_many_rows(self):
        self.refused(TooMany, FULL.with_row, "r", (2990,), keeps=("limit", 3000))
        self.refused(TooMany, FULL.with_row, "s", (0, 0), keeps=("limit", 3000))
        self.refused(InvalidRow, FULL.with_row, "r", (5,))
        self.refused(InvalidRow, FULL.with_row, "r", (1, 2))
        self.refused(UnknownName, FULL.with_row, "t", (1, 2), keeps=("word", "t"))
        less = FULL.without_row("s", (9, 0))
        self.assertEqual(len(less), 2999)
        self.assertEqual(len(less.with_row("r", (2990,))), 3000)


class TableChangingTest(RefusingCase):

    def test_with_table(self):
        made = STORE.with_table("a", 8)
        self.assertEqual(made.tables, {"a": 8, "r": 2, "s": 2, "t": 2})
        self.assertEqual(list(made.tables), ["a", "r", "s", "t"])
        self.assertEqual((made.rows("a"), made.rows("r")), ((), STORE.rows("r")))
        self.assertEqual(STORE.with_table("z", 1).tables["z"], 1)

    def test_with_no_table(self):
        for value in VALUES + ("r", "s"):
            if not is_name(value) or value == "r":
                self.refused(InvalidTable, STORE.with_table, value, 2)
                self.refused(InvalidTable, STORE.with_table, value, 0)
                self.refused(InvalidTable, STORE.with_table, value, None)

    def test_with_no_width(self):
        for width in VALUES + (0, 9, 10):
            if width.__class__ is not int or not 1 <= width <= 8:
                self.refused(InvalidNumber, STORE.with_table, "z", width, keeps=("value", width))
                self.refused(InvalidNumber, Store(SIXTEEN, {}).with_table, "z", width, keeps=("value", width))

    def test_too_many_tables(self):
        full = Store(SIXTEEN, {})
        self.refused(TooMany, full.with_table, "z", 1, keeps=("limit", 16))
        self.refused(InvalidTable, full.with_table, "a", 1)
        self.assertEqual(len(full.without_table("a").with_table("z", 1).tables), 16)

    def test_without_table(self):
        made = STORE.without_table("r")
        self.assertEqual(parts(made), ({"s": 2, "t": 2}, {"s": STORE.rows("s"), "t": STORE.rows("t")}))
        for value in VALUES + ("u", ["r"]):
            if not (isinstance(value, str) and value == "r"):
                self.refused(UnknownName, STORE.without_table, value, keeps=("word", value))
                self.refused(UnknownName, EMPTY.without_table, value, keeps=("word", value))
        self.refused(InvalidStore, EMPTY.without_table, "r")
        self.refused(InvalidStore, EMPTY.with_row("r", (1, 2)).without_table, "r")


class ValueChangingTest(RefusingCase):

    def test_renamed(self):
        store = Store({"r": 2, "s": 1}, {"r": ((0, 1), (1, 1)), "s": ((2,),)})
        made = store.renamed({0: 2, 1: 0, 2: SIXTY})
        self.assertEqual(parts(made), ({"r": 2, "s": 1}, {"r": ((0, 0), (2, 0)), "s": ((SIXTY,),)}))
        self.assertEqual(STORE.renamed({number: number for number in STORE.domain}), STORE)
        self.assertEqual(EMPTY.renamed({}), EMPTY)

    def test_folded(self):
        made = STORE.folded({number: 0 for number in STORE.domain})
        self.assertEqual(made.lines, ("row r 0 0", "row s 0 0", "row t 0 0"))
        made = STORE.folded({1: 4, 2: 2, 3: 3, 4: 4, 5: 6, 6: 6})
        self.assertEqual((made.rows("r"), made.rows("s")), (((4, 2), (4, 3)), ((2, 6), (3, 6))))
        self.assertEqual(EMPTY.folded({}), EMPTY)
        self.assertEqual(STORE.folded({1: 6, 2: 5, 3: 4, 4: 3, 5: 2, 6: 1}).rows("r"), ((3, 4), (6, 4), (6, 5)))

    def test_no_dict_of_values(self):
        right = {1: 1, 2: 2, 3: 3, 4: 4, 5: 5, 6: 6}
        wrong = [{**right, 7: 7}, {**right, "a": 7}, {**right, None: 7}]
        wrong += [{key: right[key] for key in right if key != left} for left in right]
        wrong += [{**right, 3: value} for value in VALUES if not (value.__class__ is int and 0 <= value <= SIXTY)]
        wrong += [{True: 1, 2: 2, 3: 3, 4: 4, 5: 5, 6: 6}, tuple(right.items()), list(right), "123456"]
        for value in wrong + list(VALUES):
            self.refused(InvalidOperation, STORE.folded, value)
            self.refused(InvalidOperation, STORE.renamed, value)

    def test_different_values(self):
        store = Store({"r": 2}, {"r": ((0, 1),)})
        self.refused(InvalidOperation, store.renamed, {0: 5, 1: 5})
        self.assertEqual(store.folded({0: 5, 1: 5}).rows("r"), ((5, 5),))
        for value in ({False: 1, 1: 2}, {0: 1, True: 2}, {False: 1, True: 2}, {0: False, 1: True}, {0: 1, 1: True}):
            self.refused(InvalidOperation, store.renamed, value)
            self.refused(InvalidOperation, store.folded, value)

    def test_dicts_stay(self):
        values = {2: 1, 1: 2}
        store = Store({"r": 2}, {"r": ((1, 2),)})
        made = store.renamed(values)
        values[1] = 9
        self.assertEqual((made.rows("r"), values), (((2, 1),), {2: 1, 1: 9}))


class WithinTest(RefusingCase):

    def test_within(self):
        self.assertIs(STORE.within(STORE), True)
        self.assertIs(STORE.without_row("s", (2, 5)).within(STORE), True)
        self.assertIs(STORE.within(STORE.without_row("s", (2, 5))), False)
        self.assertIs(STORE.without_table("t").within(STORE), True)
        self.assertIs(STORE.within(STORE.without_table("t")), False)
        self.assertIs(EMPTY.within(STORE), True)
        self.assertIs(STORE.within(EMPTY), False)
        self.assertIs(Store({"r": 1}, {}).within(STORE), False)
        self.assertIs(Store({"r": 2, "u": 1}, {}).within(STORE), False)
        self.assertIs(EMPTY.within(Store({"r": 3}, {})), False)
        self.assertIs(STORE.with_row("r", (9, 9)).within(STORE), False)
        self.assertIs(Store({"s": 2}, {"s": ((1, 2),)}).within(STORE), False)

    def test_within_no_store(self):
        for value in VALUES:
            if not isinstance(value, Store):
                self.refused(InvalidStore, STORE.within, value)


class OperatorsTest(RefusingCase):

    def test_sum(self):
        other = Store({"r": 2, "a": 1, "s": 2}, {"r": ((1, 3), (0, 9)), "a": ((5,),)})
        made = STORE + other
        self.assertEqual(made.tables, {"a": 1, "r": 2, "s": 2, "t": 2})
        self.assertEqual(made.rows("r"), ((0, 9), (1, 2), (1, 3), (4, 3)))
        self.assertEqual((made.rows("a"), made.rows("s"), made.rows("t")), (((5,),), STORE.rows("s"), ((4, 6),)))
        self.assertEqual(made, other + STORE)
        for store in ALL:
            self.assertEqual(store + store, store)
        self.assertEqual(STORE + EMPTY, STORE)

    def test_no_sum(self):
        for other in (Store({"r": 1}, {}), Store({"r": 3}, {"r": ((1, 2, 3),)})):
            for one in (STORE, EMPTY):
                self.refused(InvalidStore, lambda: one + other)
                self.refused(InvalidStore, lambda: other + one)
        self.refused(InvalidStore, lambda: STORE + Store({"r": 2, "s": 3}, {}))
        self.refused(InvalidStore, lambda: Store({"r": 2, "s": 3}, {}) + Store({"r": 2, "s": 1}, {}))
        self.refused(InvalidStore, lambda: Store(SIXTEEN, {}) + STORE)
        self.assertEqual(len((Store(SIXTEEN, {}) + Store({"p": 1}, {})).tables), 16)
        self.refused(InvalidStore, lambda: FULL + Store({"r": 1}, {"r": ((2990,),)}))
        self.refused(InvalidStore, lambda: Store({"z": 1}, {"z": ((0,),)}) + FULL)
        self.assertEqual(FULL + Store({"r": 1}, {"r": ((7,),)}), FULL)

    def test_product(self):
        one = Store({"r": 2, "s": 1, "a": 1}, {"r": ((0, 1), (2, 3)), "s": ((4,),), "a": ((9,),)})
        other = Store({"r": 2, "s": 1, "b": 1}, {"r": ((1, 0), (2, 2)), "s": (), "b": ((6,),)})
        made = one * other
        self.assertEqual(made.tables, {"r": 2, "s": 1})
        self.assertEqual(made.rows("r"), ((1, 7), (2, 9), (15, 21), (16, 23)))
        self.assertEqual(made.rows("s"), ())
        back = other * one
        self.assertEqual(back.rows("r"), ((10, 1), (12, 3), (20, 21), (22, 23)))

    def test_product_with_stores_without_rows(self):
        made = STORE * EMPTY
        self.assertEqual(parts(made), ({"r": 2}, {"r": ()}))
        self.assertEqual(EMPTY * STORE, EMPTY)
        self.assertEqual(EMPTY * EMPTY, EMPTY)
        zeros = Store({"r": 2}, {"r": ((0, 0),)})
        self.assertEqual(STORE * zeros, STORE.without_table("s").without_table("t"))
        self.assertEqual(zeros * STORE, STORE.without_table("s").without_table("t"))

    def test_product_is_by_the_greatest_value_of_any_row(self):
        one = Store({"r": 1}, {"r": ((3,),)})
        other = Store({"r": 1, "z": 1}, {"r": ((2,),), "z": ((99,),)})
        self.assertEqual((one * other).rows("r"), ((302,),))
        self.assertEqual((other * one).rows("r"), ((11,),))

    def test_no_product(self):
        self.refused(InvalidStore, lambda: STORE * Store({"a": 2}, {}))
        self.refused(InvalidStore, lambda: Store({"a": 2}, {"a": ((1, 2),)}) * STORE)
        for width in (1, 3):
            self.refused(InvalidStore, lambda: STORE * Store({"r": width}, {}))
            self.refused(InvalidStore, lambda: Store({"r": width, "s": 2}, {}) * STORE)
        self.refused(InvalidStore, lambda: STORE * Store({"r": 2, "s": 3}, {}))
        self.refused(InvalidStore, lambda: FULL * FULL)

    def test_product_with_many_rows(self):
        thousand = Store({"r": 1, "s": 1}, {"r": tuple((n,) for n in range(1000)), "s": ((0,),)})
        three = Store({"r": 1}, {"r": ((0,), (1,), (2,))})
        self.assertEqual(len(thousand * three), 3000)
        self.assertEqual((thousand * three).rows("r"), tuple((n,) for n in range(3000)))
        more = Store({"r": 1, "s": 1}, {"r": ((0,), (1,), (2,)), "s": ((0,),)})
        self.refused(InvalidStore, lambda: thousand * more)
        self.refused(InvalidStore, lambda: thousand * three.with_row("r", (3,)))

    def test_product_with_long_numbers(self):
        great = Store({"r": 1}, {"r": ((SIXTY,),)})
        zero = Store({"r": 1}, {"r": ((0,),)})
        one = Store({"r": 1}, {"r": ((1,),)})
        self.assertEqual((zero * great).rows("r"), ((SIXTY,),))
        self.assertEqual((great * zero).rows("r"), ((SIXTY,),))
        self.refused(InvalidStore, lambda: one * great)
        self.refused(InvalidStore, lambda: great * one)
        self.refused(InvalidStore, lambda: great * great)
        half = Store({"r": 1}, {"r": ((SIXTY // 2,),)})
        self.assertEqual((half * one).rows("r"), ((SIXTY,),))
        apart = Store({"r": 1, "s": 1}, {"r": (), "s": ((SIXTY,),)})
        self.assertEqual((great * apart).rows("r"), ())

    def test_operands_that_are_no_stores(self):
        for value in VALUES:
            if not isinstance(value, Store):
                self.refused(TypeError, lambda: STORE + value)
                self.refused(TypeError, lambda: value + STORE)
                self.refused(TypeError, lambda: STORE * value)
                self.refused(TypeError, lambda: value * STORE)

    def test_in(self):
        for pair in STORE:
            self.assertIs(pair in STORE, True)
        for value in VALUES + (
            ("r", (2, 1)), ("u", (1, 2)), ("s", (1, 2)), ("r", (1, 2, 3)), ("r", (1,)), ("r", ()), ("r",), (1, 2),
            ["r", (1, 2)], ("r", [1, 2]), ("r", "12"), (["r"], (1, 2)), ("r", (True, 2)), ("r", (1, 2), 3), "row r 1 2",
            ("r", ((1,), 2)), ("r", ([1], 2)), ("r", (1, None)), "r", ("row", (1, 2)),
        ):
            right = repr(value) == "('r', (1, 2))"
            self.assertIs(value in STORE, right, value)
            self.assertIs(value not in STORE, not right, value)

    def test_length_and_iteration(self):
        self.assertEqual([len(store) for store in ALL], [7, 0, 3000, 2, 0, 2])
        self.assertEqual(list(STORE), [("r", (1, 2)), ("r", (1, 3)), ("r", (4, 3)), ("s", (2, 5)), ("s", (3, 5)),
                                       ("s", (3, 6)), ("t", (4, 6))])
        for store in ALL:
            self.assertEqual(list(store), [(table, row) for table in store.tables for row in store.rows(table)])
            self.assertEqual(list(store), sorted(store))
            self.assertEqual(len(store), len(list(store)))

    def test_equality(self):
        twin = Store.from_lines(*reversed(STORE.lines))
        self.assertTrue(STORE == twin)
        self.assertFalse(STORE != twin)
        for value in VALUES + (STORE.with_table("z", 1), STORE.without_table("t"), STORE.without_row("t", (4, 6)),
                               STORE.with_row("t", (4, 7)), STORE.lines, list(STORE), str(STORE), STORE.tables):
            if value is not STORE:
                for one, other in ((STORE, value), (value, STORE)):
                    self.assertIs(one == other, False)
                    self.assertIs(one != other, True)
        self.assertFalse(EMPTY == Store({"r": 3}, {}))
        self.assertFalse(EMPTY == Store({"s": 2}, {}))
        self.assertFalse(EMPTY == PATH)
        self.assertTrue(EMPTY == Store({"r": 2}, {"r": ()}))

    def test_text(self):
        self.assertEqual(str(STORE), "store of 3 tables, 7 rows")
        self.assertEqual(str(EMPTY), "store of 1 tables, 0 rows")
        self.assertEqual(str(FULL), "store of 2 tables, 3000 rows")
        self.assertEqual(str(EMPTY.with_row("r", (1, 1))), "store of 1 tables, 1 rows")


if __name__ == "__main__":
    unittest.main()
