"""Points 0.1, 0.7 and the functions of joinhouse.base.words."""

import math
import unittest

from joinhouse.base import words
from joinhouse.base.words import are_names, coprime, is_count, is_integer, is_name, is_naming, is_row
from joinhouse.errors import InvalidNumber, InvalidOperation
from tests.samples import PATH, RefusingCase, SIXTY, SIXTY_ONE, STORE, VALUES

NAMES = ("a", "z", "r", "abcdefgh", "zzzzzzzz", "ab", "if")
NO_NAMES = ("", "abcdefghi", "A", "Z", "aB", "a1", "1", "0", "a b", " a", "a ", " ", "a\n", "\n", "_", "a_b", "`", "{",
            "a`", "{a", "x" * 4000, "ab1", "a-b")


def is_plain_integer(value):
    return value.__class__ is int and len(str(abs(value))) <= 60


class NumbersTest(RefusingCase):

    def test_constants(self):
        self.assertEqual((words.MAX_LETTERS, words.MAX_FIGURES), (8, 60))

    def test_integers(self):
        for value in (0, 1, -1, 7, -7, 2 ** 64, SIXTY, -SIXTY, 10 ** 59, -(10 ** 59)):
            self.assertIs(is_integer(value), True, value)

    def test_no_integers(self):
        for value in (SIXTY_ONE, -SIXTY_ONE, 10 ** 99, -(10 ** 99), 10 ** 100 - 1, True, False, None, "1", (1,), [1]):
            self.assertIs(is_integer(value), False, value)

    def test_counts(self):
        for value in (0, 1, 7, SIXTY):
            self.assertIs(is_count(value), True, value)
        for value in (-1, -7, -SIXTY, SIXTY_ONE, -SIXTY_ONE, 10 ** 99, True, False, None, "0", (0,), [0], {0: 0}):
            self.assertIs(is_count(value), False, value)

    def test_values_of_every_kind(self):
        for value in VALUES:
            self.assertIs(is_integer(value), is_plain_integer(value), value)
            self.assertIs(is_count(value), is_plain_integer(value) and value >= 0, value)


    def test_powers(self):
        for number in (0, 1, 2, 7, -3, SIXTY):
            for times in range(70):
                self.assertEqual(words.power(number, times), number ** times)

    def test_indices_and_pairs(self):
        for value in VALUES:
            for many in (0, 1, 2, 5):
                self.assertIs(words.is_index(many, value), is_plain_integer(value) and 0 <= value < many)
            self.assertIs(words.is_pair(value), value.__class__ is tuple and len(value) == 2)


class NamesTest(RefusingCase):

    def test_names(self):
        for value in NAMES:
            self.assertIs(is_name(value), True, value)
        for length in range(12):
            self.assertIs(is_name("m" * length), 1 <= length <= 8, length)

    def test_every_character_at_every_place(self):
        for code in list(range(32, 127)) + [10]:
            letter = chr(code)
            for word in (letter, "a" + letter, letter + "a", "abc" + letter + "efg"):
                self.assertIs(is_name(word), "a" <= letter <= "z", word)

    def test_no_names(self):
        for value in NO_NAMES:
            self.assertIs(is_name(value), False, value)

    def test_values_of_every_kind(self):
        for value in VALUES:
            right = isinstance(value, str) and 1 <= len(value) <= 8 and not value.strip("abcdefghijklmnopqrstuvwxyz")
            self.assertIs(is_name(value), right, value)
            self.assertIs(are_names((value,)), right, value)
            self.assertIs(are_names(("a", value)), right, value)
            self.assertIs(are_names((value, "a")), right, value)

    def test_tuples_of_names(self):
        for value in ((), ("a",), ("a", "a"), ("b", "a"), ("abcdefgh",) * 20, ("a", "b", "c")):
            self.assertIs(are_names(value), True, value)
        for value in (["a"], "a", "ab", {"a": "a"}, None, True, ("a", 1), (("a",),), ("a", ("b",)), ("",), PATH):
            self.assertIs(are_names(value), False, value)


class RowsTest(RefusingCase):

    def test_widths(self):
        for width in range(12):
            self.assertIs(is_row((3,) * width), 1 <= width <= 8, width)

    def test_values(self):
        for number in (0, 1, SIXTY):
            self.assertIs(is_row((number,)), True)
            self.assertIs(is_row((7, number, 7)), True)
        for number in (-1, SIXTY_ONE, 10 ** 99, True, False, None, "1", (1,), [1], STORE):
            self.assertIs(is_row((number,)), False, number)
            self.assertIs(is_row((number, 1)), False, number)
            self.assertIs(is_row((1, 2, number)), False, number)

    def test_values_of_every_kind(self):
        for value in VALUES:
            self.assertIs(is_row(value), repr(value) in ("(1,)", "(1, 2)"), value)

    def test_other_sequences(self):
        for value in ([1, 2], "12", {1: 2}, 12):
            self.assertIs(is_row(value), False, value)


class NamingTest(RefusingCase):

    def test_namings(self):
        for names, value in (
            ((), {}),
            (("a",), {"a": "a"}),
            (("a", "b"), {"b": "a", "a": "b"}),
            (("b", "a"), {"a": "x", "b": "abcdefgh"}),
            (("a", "a"), {"a": "b"}),
            (("a", "b", "a"), {"b": "a", "a": "c"}),
        ):
            self.assertIs(is_naming(names, value), True, value)

    def test_no_namings(self):
        for value in (
            {},
            {"a": "x"},
            {"b": "x"},
            {"a": "x", "c": "y"},
            {"a": "x", "b": "y", "c": "z"},
            {"a": "x", "b": "x"},
            {"a": "x", "b": ""},
            {"a": "x", "b": "abcdefghi"},
            {"a": "x", "b": "X"},
            {"a": "x", "b": 1},
            {"a": "x", "b": None},
            {"a": "x", "b": True},
            {"a": "x", "b": ("y",)},
            {"a": "x", "b": ["y"]},
            {"a": "x", "b": {}},
            {"a": "x", None: "y"},
            {"a": "x", 1: "y"},
            {"a": "x", True: "y"},
            {"a": "x", ("b",): "y"},
            (("a", "x"), ("b", "y")),
            [("a", "x"), ("b", "y")],
            ("a", "b"),
        ):
            self.assertIs(is_naming(("a", "b"), value), False, value)

    def test_values_of_every_kind(self):
        for value in VALUES:
            self.assertIs(is_naming((), value), value == {} and isinstance(value, dict), value)
            self.assertIs(is_naming(("a",), value), value == {"a": "b"}, value)

    def test_wrong_names(self):
        for names in VALUES:
            if not are_names(names):
                self.refused(InvalidOperation, is_naming, names, {})
                self.refused(InvalidOperation, is_naming, names, names)
        self.refused(InvalidOperation, is_naming, ["a"], {"a": "b"})
        self.refused(InvalidOperation, is_naming, ("a", 1), {"a": "b", 1: "c"})

    def test_nothing_changes(self):
        value = {"b": "a", "a": "b"}
        is_naming(("a", "b"), value)
        self.assertEqual(list(value.items()), [("b", "a"), ("a", "b")])


class CoprimeTest(RefusingCase):

    def test_quotients(self):
        for one in range(30):
            for other in range(1, 30):
                up, down = coprime(one, other)
                self.assertEqual(up * other, one * down)
                self.assertEqual(math.gcd(up, down), 1)
                self.assertIsInstance(coprime(one, other), tuple)
                self.assertGreater(down, 0)

    def test_edges(self):
        self.assertEqual(coprime(6, 4), (3, 2))
        self.assertEqual(coprime(0, 1), (0, 1))
        self.assertEqual(coprime(0, SIXTY), (0, 1))
        self.assertEqual(coprime(1, 1), (1, 1))
        self.assertEqual(coprime(SIXTY, SIXTY), (1, 1))
        self.assertEqual(coprime(SIXTY, 9), (SIXTY // 9, 1))
        self.assertEqual(coprime(SIXTY - 1, SIXTY), (SIXTY - 1, SIXTY))
        self.assertEqual(coprime(10 ** 59, 2 * 10 ** 58), (5, 1))

    def test_wrong_numbers(self):
        for value in VALUES:
            if not is_count(value):
                self.refused(InvalidNumber, coprime, value, 1, keeps=("value", value))
                self.refused(InvalidNumber, coprime, 1, value, keeps=("value", value))
                self.refused(InvalidNumber, coprime, value, 0, keeps=("value", value))
                self.refused(InvalidNumber, coprime, 0, value, keeps=("value", value))
        self.refused(InvalidNumber, coprime, 0, 0, keeps=("value", 0))
        self.refused(InvalidNumber, coprime, 5, 0, keeps=("value", 0))

    def test_the_first_wrong_one_decides(self):
        for one, other in ((-1, -2), (True, None), ("a", 0), (SIXTY_ONE, -SIXTY_ONE), ((1,), [1])):
            self.refused(InvalidNumber, coprime, one, other, keeps=("value", one))


class LinesTest(unittest.TestCase):

    def test_words_of_lines(self):
        self.assertEqual(words.words_of("clause r a"), ("clause", "r", "a"))
        self.assertEqual(words.words_of(" a  b "), ("", "a", "", "b", ""))
        self.assertEqual(words.words_of("a\nb"), ("a\nb",))
        for value in (None, 1, ("a",), ["a"], PATH):
            self.assertEqual(words.words_of(value), ("",))

    def test_figures(self):
        for word in ("0", "1", "10", "907", "9" * 60):
            self.assertIs(words.is_figures(word), True, word)
        for word in ("", "00", "01", "+1", "-1", "-0", "1.0", "1_0", "a", "1a", " 1", "1\n", "9" * 61, "\u0663", "\u00b2"):
            self.assertIs(words.is_figures(word), False, word)

    def test_dicts_from(self):
        self.assertIs(words.is_dict_from((1, 2), {2: None, 1: None}), True)
        self.assertIs(words.is_dict_from((1, 2), {2: None, True: None}), False)
        self.assertIs(words.is_dict_from((0, 2), {2: None, False: None}), False)
        self.assertIs(words.is_dict_from((1, 2), {1: None}), False)
        self.assertIs(words.is_dict_from((1,), {1: None, 2: None}), False)
        self.assertIs(words.is_dict_from((1,), [1]), False)

    def test_ascending(self):
        for values in ((), (1,), (1, 2), ("a", "b", "c"), (("a", ("b",)), ("b", ("a",)))):
            self.assertIs(words.is_ascending(values), True)
        for values in ((1, 1), (2, 1), (1, 2, 2), (1, 3, 2), ("b", "a")):
            self.assertIs(words.is_ascending(values), False)


if __name__ == "__main__":
    unittest.main()
