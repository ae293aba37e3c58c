"""Point 18.3 and the functions of joinhouse.text.texts."""

import itertools
import random
import unittest

from joinhouse.base.questions import Question
from joinhouse.base.stores import Store
from joinhouse.errors import (
    InvalidKnot,
    InvalidMap,
    InvalidOperation,
    InvalidQuestion,
    InvalidStore,
    ParseError,
)
from joinhouse.fold.maps import find_map
from joinhouse.shape.knots import knot_of
from joinhouse.shape.reducers import full_reducer
from joinhouse.shape.trees import join_tree
from joinhouse.text.texts import (
    read_knot,
    read_links,
    read_map,
    read_question,
    read_store,
    write_knot,
    write_links,
    write_map,
    write_question,
    write_store,
)
from tests.brute import some_question, some_shape, some_store
from tests.samples import LOOP, PATH, RING, SIXTY, SIXTY_ONE, STORE, TWICE, VALUES, RefusingCase

SIGNS = "ab z09-= \n:A_`{\t\r\x0b\x0c\x1c\x85\xa0\u2028\u0660\u00e9\u03b1"
NO_STRINGS = tuple(value for value in VALUES if not isinstance(value, str))


def bent_texts(text):
    """Texts with one sign put in, left out, or exchanged, and with words exchanged."""
    for at in range(len(text) + 1):
        for sign in SIGNS:
            yield text[:at] + sign + text[at:]
            if at < len(text):
                yield text[:at] + sign + text[at + 1:]
        if at < len(text):
            yield text[:at] + text[at + 1:]
    words = text.split(" ")
    for one, other in itertools.combinations(range(len(words)), 2):
        changed = list(words)
        changed[one], changed[other] = changed[other], changed[one]
        yield " ".join(changed)
    yield from (text + "\n", "\n" + text, " " + text, text + " ", text.replace(" ", "  "), text.upper(), text + text, text * 2 + "\n")


class QuestionsAndStoresTest(RefusingCase):

    def test_written_and_read(self):
        chance = random.Random(1)
        for at in range(150):
            question, store = some_question(chance), some_store(chance)
            self.assertEqual(write_question(question), "\n".join(question.lines))
            self.assertEqual(write_store(store), "\n".join(store.lines))
            self.assertEqual(read_question(write_question(question)), question)
            self.assertEqual(read_store(write_store(store)), store)
            lines = list(store.lines)
            chance.shuffle(lines)
            self.assertEqual(read_store("\n".join(lines)), store)

    def as_lines(self, reader, made, text):
        """Checks that a text is read as its lines are."""
        try:
            right = made.from_lines(*text.split("\n"))
        except (ParseError, InvalidQuestion, InvalidStore) as caught:
            with self.assertRaises(caught.__class__) as told:
                reader(text)
            if isinstance(caught, ParseError):
                self.assertEqual(told.exception.number, caught.number)
            return 0
        self.assertEqual(reader(text), right)
        return 1

    def test_bent_texts(self):
        good = 0
        for text in bent_texts(write_question(TWICE)):
            good += self.as_lines(read_question, Question, text)
        for text in bent_texts("table t 1\nrow r 1 20\nrow r 3 4"):
            good += self.as_lines(read_store, Store, text)
        self.assertGreater(good, 10)

    def test_lines_that_are_none(self):
        for text, number in (("", 0), ("\n", 0), ("clause r a\n", 1), ("clause r a\nclause r a", 1), ("asked\nasked", 1),
                             ("clause r a\r\nasked", 0), ("clause r a\n\nasked", 1), (" clause r a", 0)):
            self.refused(ParseError, read_question, text, keeps=("number", number))
        for text, number in (("", 0), ("row r 01", 0), ("row r 1\n", 1), ("row r 1\nrow r 1", 1), ("table r 1\nrow r 1 2", 1),
                             ("row r " + "1" * 61, 0), ("row r -1", 0), ("row r 1\u0660", 0), ("row r \u00b2", 0), ("row r 1_0", 0)):
            self.refused(ParseError, read_store, text, keeps=("number", number))
        self.assertEqual(read_store("row r " + "9" * 60).rows("r"), ((SIXTY,),))
        self.refused(InvalidQuestion, read_question, "asked")
        self.refused(InvalidQuestion, read_question, "clause r a\nasked b")
        self.refused(InvalidStore, read_store, "\n".join(f"row r {at}" for at in range(3001)))

    def test_wrong_values(self):
        for value in NO_STRINGS:
            for reader in (read_question, read_store, read_map, read_links, read_knot):
                self.refused(ParseError, reader, value, keeps=("number", None))
        for value in VALUES:
            if not isinstance(value, Question):
                self.refused(InvalidQuestion, write_question, value)
            if not isinstance(value, Store):
                self.refused(InvalidStore, write_store, value)
            if isinstance(value, str):
                self.assertIn(self.as_lines(read_question, Question, value), (0, 1))
                self.assertIn(self.as_lines(read_store, Store, value), (0, 1))


class ReadingCase(RefusingCase):

    def read_only_what_is_written(self, reader, writer, texts, same=None):
        """Checks that a text that is read is one that is written, and that others are refused."""
        good = 0
        for text in texts:
            try:
                value = reader(text)
            except ParseError as caught:
                self.assertIsNone(caught.number)
                continue
            self.assertEqual(writer(value), same(text) if same else text)
            good += 1
        return good


class MapsTest(ReadingCase):

    def test_written_and_read(self):
        names = {"c": "x", "a": "x", "b": "abcdefgh"}
        self.assertEqual(write_map(names), "a=x b=abcdefgh c=x")
        self.assertEqual(list(names), ["c", "a", "b"])
        for order in itertools.permutations(write_map(names).split(" ")):
            found = read_map(" ".join(order))
            self.assertEqual(list(found.items()), sorted(names.items()))
        chance = random.Random(2)
        some = 0
        for _ in range(80):
            one, other = some_question(chance, many=1), some_question(chance, many=1)
            found = find_map(one, other)
            if found is not None:
                self.assertEqual(read_map(write_map(found)), found)
                some += 1
        self.assertGreater(some, 2)
        many = {chr(97 + at // 26) + chr(97 + at % 26): "a" for at in range(500)}
        self.assertEqual(read_map(write_map(many)), many)

    def test_bent_texts(self):
        good = self.read_only_what_is_written(read_map, write_map, bent_texts("a=x bc=x"),
                                              lambda text: " ".join(sorted(text.split(" "))))
        self.assertGreater(good, 10)
        for text in ("", "a", "a=", "=a", "a=b=c", "a=b a=b", "a=b a=c", "a = b", "a=b,c=d", "a=B", "a=b  c=d", "a=b ", " a=b",
                     "a=b\nc=d", "abcdefghi=a", "a=abcdefghi", "a=1", "-", "none", "a\u00e9=b", "a:b", "="):
            self.refused(ParseError, read_map, text, keeps=("number", None))

    def test_no_maps(self):
        for value in (*VALUES, {"a": "B"}, {"A": "b"}, {"a": None}, {"a": "b", 1: "c"}, {"a": ["b"]}, {"a": "abcdefghi"},
                      (("a", "b"),), "a=b", {("a",): "b"}):
            if value != {"a": "b"}:
                self.refused(InvalidMap, write_map, value)


class LinksTest(ReadingCase):

    def test_written_and_read(self):
        for links in ((), ((0, 1),), ((1, 0),), ((2, 1), (0, 1), (2, 1)), ((0, SIXTY), (SIXTY - 1, 10)), ((7, 5),) * 300):
            self.assertEqual(read_links(write_links(links)), links)
        self.assertEqual((write_links(()), write_links(((0, 1), (12, 1)))), ("-", "0-1 12-1"))
        chance = random.Random(3)
        for _ in range(60):
            question = some_shape(chance, letters="abcdef", most=6)
            for links in (join_tree(question), full_reducer(question)):
                if links is not None:
                    self.assertEqual(read_links(write_links(links)), links)

    def test_bent_texts(self):
        good = self.read_only_what_is_written(read_links, write_links, bent_texts("0-1 12-0"))
        self.assertGreater(good, 10)
        others = [text for text in bent_texts("-") if text != "-"]
        self.assertEqual(self.read_only_what_is_written(read_links, write_links, others), 0)
        for text in ("", " ", "--", "- -", "0-0", "1-1", "01-2", "1-02", "0-1-2", "0--1", "-0-1", "0-", "-1", "0", "0-1 ", " 0-1",
                     "0-1  1-2", "0-1\n1-2", "0-1 -", "- 0-1", "0 - 1", "0-a", "0-1,1-2", "0-\u0661", "0-\u00b9", "0-" + "1" * 61,
                     "1_0-2", "0-1 1-1", "none"):
            self.refused(ParseError, read_links, text, keeps=("number", None))
        self.assertEqual(read_links("0-" + "9" * 60), ((0, SIXTY),))

    def test_no_links(self):
        for value in (*VALUES, ((0, 0),), ((0, True),), ((False, 1),), ((0, -1),), ((0, SIXTY_ONE),), [(0, 1)], ([0, 1],),
                      ((0, 1, 2),), ((0,),), (0, 1), ((0, 1), None), ((0, "1"),), "0-1"):
            if value != ():
                self.refused(InvalidOperation, write_links, value)


class KnotsTest(ReadingCase):

    def test_written_and_read(self):
        for knot in (knot_of(RING), knot_of(LOOP), ("ring", tuple("adcb")[:1] + ("b", "d", "c")), ("crown", tuple("abcdefgh")),
                     ("ring", tuple("abcdefgh")), ("ring", ("a", "h", "b", "i")), ("crown", ("a", "abc", "zzzzzzzz"))):
            self.assertEqual(read_knot(write_knot(knot)), knot)
        self.assertEqual(write_knot(("ring", ("a", "c", "b", "d"))), "ring a c b d")
        chance = random.Random(4)
        some = 0
        for _ in range(100):
            knot = knot_of(some_shape(chance, letters="abcdef", most=6))
            if knot is not None:
                self.assertEqual(read_knot(write_knot(knot)), knot)
                some += 1
        self.assertGreater(some, 5)

    def test_all_texts_of_few_names(self):
        good = 0
        for word in ("ring", "crown"):
            for many in range(6):
                for names in itertools.product("abcde", repeat=many):
                    right = list(names) == sorted(set(names)) and many >= 3 if word == "crown" else (
                        many >= 4 and len(set(names)) == many and names[0] == min(names) and names[1] < names[-1])
                    text = " ".join([word, *names])
                    if right:
                        self.assertEqual(read_knot(text), (word, names))
                        self.assertEqual(write_knot((word, names)), text)
                        good += 1
                    else:
                        self.refused(ParseError, read_knot, text, keeps=("number", None))
                        self.refused(InvalidKnot, write_knot, (word, names))
        self.assertGreater(good, 20)

    def test_bent_texts(self):
        for text in ("ring a b c d", "crown a b c"):
            self.assertGreater(self.read_only_what_is_written(read_knot, write_knot, bent_texts(text)), 5)
        for text in ("", "ring", "crown", "Ring a b c d", "ring a b c", "crown a b", "crown a c b", "ring b a c d", "ring a d c b",
                     "ring a b c d e f g h i", "crown a b c d e f g h i", "ring  a b c d", "ring a b c d ", " crown a b c",
                     "crown a b c\n", "crown a b C", "crown a b 1", "knot a b c", "none", "crown a b abcdefghi", "-"):
            self.refused(ParseError, read_knot, text, keeps=("number", None))

    def test_no_knots(self):
        for value in (*VALUES, ("ring", ("a", "b", "c")), ["crown", ("a", "b", "c")], ("crown", ["a", "b", "c"]), ("crown", "abc"),
                      ("crown", ("a", "b", "c"), ()), ("crown",), ("crown", ("a", "b", None)), ("crown", ("a", "b", "C")),
                      (None, ("a", "b", "c")), ("ring", ("a", "b", "a", "c")), ("crown", tuple("abcdefghi")), "crown a b c"):
            self.refused(InvalidKnot, write_knot, value)
        self.assertEqual(write_question(PATH), "clause r a b\nclause s b c\nasked a c")
        self.assertEqual(len(write_store(STORE).split("\n")), 7)


if __name__ == "__main__":
    unittest.main()
