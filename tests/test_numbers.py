"""Points 9 and 10: numbers, what counted to them, and what a mark stands in."""

import unittest

from papertongue.documents import Document
from papertongue.errors import NoDocument, NoMark, NoNumber
from papertongue.numbers import counted, number_of, numbers
from papertongue.texts import Text

from helper import NUMBERS, OTHER_THINGS, cell, document, dot, figure, head, num, para, refused, table, words

WHEN = ("when", "pages")
DONE = ("done",)


def counter(kind, form, within):
    return ("counter", kind, form, within)


def told(*rows):
    """The numbers alone of the Document of these rows."""
    return [number for _, _, _, number in numbers(document(*rows))]


class Told(unittest.TestCase):
    def test_rows_and_tokens_in_their_turn(self):
        made = document(
            head(1, "a"), para("x { y } [ z ] { w }"), num(1, "v [ u ]"), dot(1, "t { s }"), figure(1, "r"),
            *table(1, "q", ["p"]))
        self.assertEqual(numbers(made), (
            (0, None, "head", "1"), (1, 1, "foot", "1"), (1, 4, "end", "1"), (1, 7, "foot", "2"),
            (2, None, "item", "1"), (2, 1, "end", "2"), (3, 1, "foot", "3"), (4, None, "figure", "1"),
            (5, None, "table", "1")))

    def test_none(self):
        self.assertEqual(numbers(document()), ())
        self.assertEqual(numbers(document(para("x"), dot(1, "x"), ("index",), ("break",))), ())

    def test_are_tuples_and_texts(self):
        (one,) = numbers(document=document(head(1)))
        self.assertIs(type(one), tuple)
        self.assertIs(type(one[3]), str)

    def test_hidden_rows_count(self):
        rows = [WHEN, ("when", "plain"), head(1), para("{ x }"), figure(1), DONE, DONE, head(1), para("{ y }"), figure(2)]
        self.assertEqual(told(*rows), ["1", "1", "1", "2", "2", "2"])

    def test_of_included_texts(self):
        inner = Text((head(1, "x"), para("{ y }")))
        made = Document((("a", Text((("include", "b"), head(2), ("include", "b")))), ("b", inner)))
        self.assertEqual(numbers(made), (
            (0, None, "head", "1"), (1, 0, "foot", "1"), (2, None, "head", "1.1"), (3, None, "head", "2"),
            (4, 0, "foot", "2")))


class Forms(unittest.TestCase):
    COUNTS = {1: "a", 2: "b", 26: "z", 27: "aa", 28: "ab", 52: "az", 53: "ba", 78: "bz", 79: "ca"}

    def test_letters(self):
        made = told(counter("head", "a", 1), *[head(1)] * 79)
        for count, letters in self.COUNTS.items():
            self.assertEqual(made[count - 1], letters)

    def test_great_letters(self):
        made = told(counter("figure", "A", 0), *[figure(1)] * 79)
        for count, letters in self.COUNTS.items():
            self.assertEqual(made[count - 1], letters.upper())

    def test_figures(self):
        self.assertEqual(told(counter("table", "1", 0), *table(1, "", []) * 12), [str(at) for at in range(1, 13)])
        self.assertEqual(told(*[head(1)] * 80), [str(at) for at in range(1, 81)])

    def test_behind_the_last_two_letters(self):
        inner = tuple(("para", "-", ("{", "}") * 20) for _ in range(36))
        made = Document((("a", Text((counter("foot", "a", 0), ("include", "b")))), ("b", Text(inner))))
        found = [number for _, _, _, number in numbers(made)]
        self.assertEqual(len(found), 720)
        self.assertEqual((found[675], found[701], found[702], found[703], found[-1]), ("yz", "zz", "aaa", "aab", "aar"))

    def test_nought_by_each(self):
        for form in "1aA":
            self.assertEqual(told(counter("head", form, 1), head(3), head(2)), ["0.0.1", "0.1"])
        self.assertEqual(told(counter("head", "a", 2), head(2), head(1)), ["0.a", "1"])


class Heads(unittest.TestCase):
    def test_depths(self):
        rows = [head(depth) for depth in (1, 2, 2, 3, 3, 2, 3, 1, 3, 2, 3, 1, 1)]
        self.assertEqual(told(*rows), [
            "1", "1.1", "1.2", "1.2.1", "1.2.2", "1.3", "1.3.1", "2", "2.0.1", "2.1", "2.1.1", "3", "4"])

    def test_ahead_of_any_of_depth_one(self):
        self.assertEqual(told(head(3), head(2), head(2), head(1)), ["0.0.1", "0.1", "0.2", "1"])

    def test_forms_of_each_depth(self):
        rules = [counter("head", "A", 1), counter("head", "a", 3)]
        self.assertEqual(told(*rules, head(1), head(2), head(3), head(3), head(1), head(3)), [
            "A", "A.1", "A.1.a", "A.1.b", "B", "B.0.a"])


class Within(unittest.TestCase):
    # Each kind by a row that makes one of it.
    MADE = {"table": table(1, "", []), "figure": [figure(1)], "foot": [para("{ }")], "end": [num(1, "[ ]")]}

    def rows(self, kind, *turn):
        """Rows of heads of depths and, by 0, of the kind."""
        made = []
        for one in turn:
            made += [head(one)] if one else self.MADE[kind]
        return made

    def numbers(self, kind, form, within, *turn):
        made = document(counter(kind, form, within), *self.rows(kind, *turn))
        return [number for _, _, other, number in numbers(made) if other == kind]

    def test_each_kind_and_within(self):
        turn = (0, 1, 0, 0, 2, 0, 3, 0, 0, 2, 0, 1, 0, 3, 0, 1, 0)
        expected = {
            0: ["1", "2", "3", "4", "5", "6", "7", "8", "9", "10"],
            1: ["0.1", "1.1", "1.2", "1.3", "1.4", "1.5", "1.6", "2.1", "2.2", "3.1"],
            2: ["0.0.1", "1.0.1", "1.0.2", "1.1.1", "1.1.2", "1.1.3", "1.2.1", "2.0.1", "2.0.2", "3.0.1"],
            3: ["0.0.0.1", "1.0.0.1", "1.0.0.2", "1.1.0.1", "1.1.1.1", "1.1.1.2", "1.2.0.1", "2.0.0.1", "2.0.1.1",
                "3.0.0.1"],
        }
        for kind in self.MADE:
            for within, all_told in expected.items():
                self.assertEqual(self.numbers(kind, "1", within, *turn), all_told, (kind, within))

    def test_forms(self):
        for kind in self.MADE:
            self.assertEqual(self.numbers(kind, "a", 1, 1, 0, 0), ["1.a", "1.b"])
            self.assertEqual(self.numbers(kind, "A", 0, 1, 0, 0), ["A", "B"])

    def test_forms_of_heads_ahead(self):
        rules = [counter("head", "A", 1), counter("head", "a", 2), counter("figure", "1", 2)]
        self.assertEqual(told(*rules, head(2), figure(1), head(1), head(2), figure(1), figure(1)), [
            "0.a", "0.a.1", "A", "A.a", "A.a.1", "A.a.2"])

    def test_each_counts_for_itself(self):
        rows = [counter("foot", "a", 1), head(1), para("{ } [ ] { }"), figure(1), head(1), para("[ ] { }"), figure(1)]
        self.assertEqual(told(*rows), ["1", "1.a", "1", "1.b", "1", "2", "2", "2.a", "2"])


class Items(unittest.TestCase):
    def test_depths(self):
        rows = [num(depth) for depth in (1, 1, 2, 2, 3, 2, 3, 1, 2, 3, 3, 1)]
        self.assertEqual(told(*rows), ["1", "2", "1", "2", "1", "3", "1", "3", "1", "1", "2", "4"])

    def test_a_lesser_depth_behind_a_greater(self):
        self.assertEqual(told(num(3), num(3), num(2), num(3), num(1), num(1)), ["1", "2", "1", "1", "1", "2"])

    def test_dots_have_none_and_count_not(self):
        self.assertEqual(told(num(1), dot(1), num(1), dot(2), num(2)), ["1", "2", "1"])

    def test_dots_make_greater_depths_nought(self):
        self.assertEqual(told(num(2), dot(1), num(2), dot(2), num(2), dot(3), num(2)), ["1", "1", "2", "3"])

    def test_rows_between(self):
        for row in (para(), para("x"), head(1), figure(1), ("break",), ("index",), ("contents", 1), ("endnotes",)):
            made = numbers(document(num(1), num(2), row, num(2), num(1)))
            self.assertEqual([one[3] for one in made if one[2] == "item"], ["1", "1", "1", "1"], row)

    def test_whens_between(self):
        self.assertEqual(told(WHEN, num(1), DONE, num(1), num(1), WHEN, num(1), num(1), DONE), ["1", "1", "2", "1", "2"])

    def test_a_table_between(self):
        self.assertEqual(told(num(1), *table(1, "", []), num(1)), ["1", "1", "1"])

    def test_form(self):
        self.assertEqual(told(counter("item", "A", 0), num(1), num(1), num(2)), ["A", "B", "A"])

    def test_notes_within_are_no_rows_between(self):
        self.assertEqual(told(num(1, "{ x }"), num(1, "[ y ]")), ["1", "1", "2", "1"])


class Counted(unittest.TestCase):
    def test_heads(self):
        made = document(head(1), head(2), para(), head(2), head(3), head(1), head(2), head(1))
        self.assertEqual(counted(made, 0), ((0, None),))
        self.assertEqual(counted(made, 1), ((1, None),))
        self.assertEqual(counted(made, 3), ((1, None), (3, None)))
        self.assertEqual(counted(made, 4), ((4, None),))
        self.assertEqual(counted(made, 6), ((6, None),))
        self.assertEqual(counted(made, 7), ((0, None), (5, None), (7, None)))

    def test_notes(self):
        made = document(counter("foot", "1", 1), para("{ } [ ] { }"), head(1), para("[ ] { }"), num(1, "a { b }"))
        self.assertEqual(counted(made, 1, 0), ((1, 0),))
        self.assertEqual(counted(made, 1, 4), ((1, 0), (1, 4)))
        self.assertEqual(counted(made, 3, 0), ((1, 2), (3, 0)))
        self.assertEqual(counted(made, 3, 2), ((3, 2),))
        self.assertEqual(counted(made, 4, 1), ((3, 2), (4, 1)))
        self.assertEqual(counted(made, 4), ((4, None),))

    def test_items(self):
        made = document(num(1), num(2), num(2), dot(1), num(1), num(2), num(3), num(2), para(), num(1))
        self.assertEqual(counted(made, 2), ((1, None), (2, None)))
        self.assertEqual(counted(made, 4), ((0, None), (4, None)))
        self.assertEqual(counted(made, 7), ((5, None), (7, None)))
        self.assertEqual(counted(made, 9), ((9, None),))

    def test_by_names(self):
        made = document(para("{ }"), head(1))
        self.assertEqual(counted(document=made, row=0, token=0), ((0, 0),))
        self.assertEqual(counted(made, token=None, row=1), ((1, None),))

    def test_as_many_as_the_number_tells(self):
        rows = [para("{ } { }"), head(1), num(1), num(1), head(2), figure(1), figure(1), head(2), figure(1)]
        made = document(counter("figure", "1", 2), *rows)
        for row, token, _, number in numbers(made):
            self.assertEqual(len(counted(made, row, token)), int(number.split(".")[-1]))
            self.assertEqual(counted(made, row, token)[-1], (row, token))

    def test_no_number(self):
        made = document(head(1, "x y"), para("a { b } [ ]"), dot(1, "x"), *table(1, "", ["x"]))
        for row, token in [
                (0, 0), (0, 1), (1, None), (1, 0), (1, 2), (1, 3), (1, 5), (2, None), (2, 0), (4, None), (5, None),
                (6, None), (7, None), (-1, None), (-7, None), (8, None), (1, -5), (1, 40), (3, 0), (10 ** 30, None)]:
            refused(self, NoNumber, "place", (row, token), counted, made, row, token)
        refused(self, NoNumber, "place", (1, None), counted, made, 1)

    def test_no_number_of_any_kind(self):
        made = document(para("{ }"), head(1), para("a { }"))
        for thing in OTHER_THINGS + ["", "1", (0,), (0, 0), "head"]:
            told = refused(self, NoNumber, "place", (thing, None), counted, made, thing)
            self.assertIs(told.place[0], thing)
            refused(self, NoNumber, "place", (thing, 0), counted, made, row=thing, token=0)
            if thing is not None:
                refused(self, NoNumber, "place", (0, thing), counted, made, 0, thing)
                refused(self, NoNumber, "place", (1, thing), counted, made, 1, thing)

    def test_a_truth_is_no_number(self):
        made = document(para("{ } a { }"), head(1))
        self.assertEqual(counted(made, 1), ((1, None),))
        refused(self, NoNumber, "place", (True, None), counted, made, True)
        refused(self, NoNumber, "place", (0, False), counted, made, 0, False)
        refused(self, NoNumber, "place", (False, 0), counted, made, False, 0)


class Marks(unittest.TestCase):
    def check(self, made, **expected):
        for name, number in expected.items():
            self.assertEqual(number_of(made, name), number, name)

    def test_rows_with_numbers(self):
        made = document(
            head(1, "@a x"), head(2, "x @b"), num(1, "@c x"), num(1, "@d"), figure(1, "@e"),
            *table(2, "@f", ["@g", cell("x @h", 1, 1)], ["@i"]), figure(1), *table(1, "@j", ["@k"]))
        self.check(made, a="1", b="1.1", c="1", d="2", e="1", f="1", g="1", h="1", i="1", j="2", k="2")

    def test_rows_without(self):
        made = document(para("@a"), dot(1, "@b"), head(2), para("@c"), dot(1, "@d"), head(1, "x"), para("@e"))
        self.check(made, a="-", b="-", c="0.1", d="0.1", e="1")

    def test_the_last_head_is_one_ahead(self):
        made = document(head(1), para("@a"), head(1), head(3), para("@b"), WHEN, head(2), DONE, para("@c"))
        self.check(made, a="1", b="2.0.1", c="2.1")

    def test_notes(self):
        made = document(
            head(1), para("@a { @b x } @c [ y @d ] @e { @f }"), num(1, "@g { @h } [ @i ] @j"), dot(1, "[ @k ] @l"))
        self.check(
            made, a="1", b="1", c="1", d="1", e="1", f="2", g="1", h="3", i="2", j="1", k="3", l="1")

    def test_forms(self):
        made = document(
            counter("head", "A", 1), counter("foot", "a", 1), counter("figure", "A", 3), head(1, "@a"),
            para("{ @b } @c"), figure(1, "@d"))
        self.check(made, a="A", b="A.a", c="A", d="A.0.0.A")

    def test_by_names(self):
        self.assertEqual(number_of(name="a", document=document(head(1, "@a"))), "1")

    def test_no_mark(self):
        made = document(head(1, "@a b"), para("~a"))
        for thing in OTHER_THINGS + NUMBERS + ["", "b", "@a", "A", "aa", ("a",)]:
            told = refused(self, NoMark, "name", thing, number_of, made, thing)
            self.assertIs(told.name, thing)


class NoDocuments(unittest.TestCase):
    def test_of_any_kind(self):
        for thing in OTHER_THINGS + NUMBERS + ["", (), (head(1),), words("a b")]:
            if type(thing) is not Document:
                refused(self, NoDocument, "place", None, numbers, thing)
                refused(self, NoDocument, "place", None, counted, thing, "x", [])
                refused(self, NoDocument, "place", None, number_of, thing, None)
                refused(self, NoDocument, "place", None, number_of, document=thing, name="a")


if __name__ == "__main__":
    unittest.main()
