"""Point 5: which ROWs there are, and how one is written."""

import unittest

from helper import NUMBERS, OTHER_THINGS, deep_tuple, refused
from papertongue.errors import NoRows
from papertongue.rows import is_row, show_row
from papertongue.texts import Text

# A ROW of each word, and for each part behind the word what else it may be and what it may not.
NAMES = (["a", "abcdefgh"], ["", "A", "abcdefghi", "a1", "-", "a b", " a", "a\n", "@a"])
STYLES = (["a", "abcdefgh", "-"], ["", "A", "abcdefghi", "--", " -", "a-"])
BARE = (
    [(), ("a",), ("@a", "#b", "^c", "D"), ("a",) * 40],
    [("a",) * 41, ("{", "}"), ("[", "]"), ("~a",), ("&a",), ("a", "&a"), ("a b",), (1,), ((),), "a", ["a"]],
)
PLAIN = (
    [(), ("a",), ("@a", "#b", "^c", "D", "~e", "&f"), ("~a",) * 40],
    [("~a",) * 41, ("{", "}"), ("[", "]"), ("a", "{", "b", "}"), ("",), (None,), "a", ["a"]],
)
TOKENS = (
    [(), ("a",), ("~a", "&b"), ("{", "a", "}", "[", "@b", "]"), ("{",) + ("a",) * 38 + ("}",)],
    [("a",) * 41, ("{",), ("}",), ("{", "]"), ("{", "[", "]", "}"), ("@A",), (True,), "", ["a"]],
)


def numbers(least, most):
    """What a number part may be, from least to most, and what it may not."""
    return (list(range(least, most + 1)), [least - 1, most + 1, str(most), bool(least), 10 ** 20, -most, (most,)])


def choices(*words):
    """What a part may be that is one of these words, and what it may not."""
    wrong = ["", words[0] + " ", words[0] + words[0], words[0].upper() + "x", "choice", "number", "name", (words[0],)]
    return (list(words), wrong)


EACH = {
    ("style", "a", 0, 0, 0, "left"): (
        NAMES, numbers(0, 6), numbers(0, 4), numbers(0, 2), choices("left", "right", "middle")),
    ("counter", "table", "1", 0): (
        choices("table", "figure", "foot", "end"), choices("1", "a", "A"), numbers(0, 3)),
    ("head", 1, ()): (numbers(1, 3), BARE),
    ("para", "-", ()): (STYLES, TOKENS),
    ("item", 1, "dot", ()): (numbers(1, 3), choices("dot", "num"), TOKENS),
    ("figure", 1, ()): (numbers(1, 6), BARE),
    ("table", 1, ()): (numbers(1, 4), BARE),
    ("row",): (),
    ("cell", 1, 1, ()): (numbers(1, 4), numbers(1, 4), PLAIN),
    ("close",): (),
    ("contents", 1): (numbers(1, 3),),
    ("figures",): (),
    ("index",): (),
    ("endnotes",): (),
    ("break",): (),
    ("include", "a"): (NAMES,),
    ("when", "pages"): (choices("pages", "screen", "plain"),),
    ("done",): (),
}


class EachRow(unittest.TestCase):
    def test_there_are_these(self):
        self.assertEqual(len(EACH), 18)
        for row in EACH:
            self.assertIs(is_row(row), True)

    def test_each_part_at_its_bounds_and_beyond(self):
        for row, parts in EACH.items():
            self.assertEqual(len(parts), len(row) - 1)
            for at, (right, wrong) in enumerate(parts, start=1):
                for part in right:
                    self.assertIs(is_row(row[:at] + (part,) + row[at + 1:]), True, (row, at, part))
                for part in wrong:
                    self.assertIs(is_row(row[:at] + (part,) + row[at + 1:]), False, (row, at, part))

    def test_parts_of_other_kinds(self):
        for row in EACH:
            for at in range(len(row)):
                for part in OTHER_THINGS:
                    self.assertIs(is_row(row[:at] + (part,) + row[at + 1:]), False)

    def test_one_is_no_true(self):
        for row in EACH:
            for at, part in enumerate(row):
                if part in (0, 1):
                    self.assertIs(is_row(row[:at] + (bool(part),) + row[at + 1:]), False)

    def test_a_list_is_no_tuple(self):
        for row in EACH:
            self.assertIs(is_row(list(row)), False)
            for at, part in enumerate(row):
                if part == ():
                    self.assertIs(is_row(row[:at] + ([],) + row[at + 1:]), False)

    def test_a_part_fewer_or_more(self):
        for row in EACH:
            self.assertIs(is_row(row[:-1]), False)
            for part in ((), "", "a", 1, None, row[-1]):
                self.assertIs(is_row(row + (part,)), False)
            self.assertIs(is_row((row,)), False)

    def test_other_words(self):
        for word in ("", "a", "rows", "Row", "row ", " row", "..", "put", "cut"):
            self.assertIs(is_row((word,)), False)
            self.assertIs(is_row((word, 1, ())), False)

    def test_other_things(self):
        for thing in [*OTHER_THINGS, *NUMBERS, (), "row", "break", deep_tuple(1), deep_tuple(9)]:
            self.assertIs(is_row(thing), False)
            if not isinstance(thing, int) or isinstance(thing, bool):
                self.assertIs(is_row(("head", thing, ())), False)
            self.assertIs(is_row((thing,)), thing in ("row", "break") if isinstance(thing, str) else False)


class Counters(unittest.TestCase):
    def test_within(self):
        right = {"head": (1, 2, 3), "item": (0,)}
        for kind in ("head", "table", "figure", "foot", "end", "item"):
            for form in ("1", "a", "A"):
                for within in range(-1, 5):
                    self.assertIs(
                        is_row(("counter", kind, form, within)), within in right.get(kind, (0, 1, 2, 3)))

    def test_other_kinds_and_forms(self):
        for kind in ("heads", "note", "para", "", "Head", "1"):
            self.assertIs(is_row(("counter", kind, "1", 1)), False)
        for form in ("i", "I", "", "b", "01", 1, "aA", "a "):
            self.assertIs(is_row(("counter", "table", form, 1)), False)


class InTexts(unittest.TestCase):
    """What is a ROW or not is so for a Text, too."""

    def test_rows_that_stand_alone(self):
        for row in EACH:
            if row[0] in ("table", "row", "cell", "close", "when", "done"):
                continue
            self.assertEqual(Text((row,)).rows, (row,))

    def test_wrong_parts(self):
        for row, parts in EACH.items():
            for at, (_, wrong) in enumerate(parts, start=1):
                for part in [*wrong, *OTHER_THINGS]:
                    refused(self, NoRows, "place", 0, Text, (row[:at] + (part,) + row[at + 1:],))

    def test_things_that_are_no_rows(self):
        for thing in [*OTHER_THINGS, *NUMBERS, (), "row", ("a",), ["break"]]:
            refused(self, NoRows, "place", 0, Text, (thing,))
            refused(self, NoRows, "place", 2, Text, (("break",), ("figures",), thing, ("index",), thing))


class Shown(unittest.TestCase):
    def test_word_and_parts(self):
        for row, line in (
            (("style", "abc", 6, 0, 2, "middle"), "style abc 6 0 2 middle"),
            (("counter", "head", "A", 3), "counter head A 3"),
            (("counter", "item", "1", 0), "counter item 1 0"),
            (("head", 2, ("On", "@a", "#b")), "head 2 On @a #b"),
            (("para", "-", ("a", "{", "b", "}")), "para - a { b }"),
            (("para", "abc", ("~a", "&b")), "para abc ~a &b"),
            (("item", 3, "num", ("[", "]")), "item 3 num [ ]"),
            (("figure", 6, ("^W", "w.")), "figure 6 ^W w."),
            (("table", 4, ("T",)), "table 4 T"),
            (("row",), "row"),
            (("cell", 1, 4, ("c", "d")), "cell 1 4 c d"),
            (("close",), "close"),
            (("contents", 1), "contents 1"),
            (("figures",), "figures"),
            (("index",), "index"),
            (("endnotes",), "endnotes"),
            (("break",), "break"),
            (("include", "abc"), "include abc"),
            (("when", "screen"), "when screen"),
            (("done",), "done"),
        ):
            self.assertEqual(show_row(row), line)

    def test_of_no_tokens_no_blank(self):
        for row, line in (
            (("head", 1, ()), "head 1"), (("para", "-", ()), "para -"), (("item", 1, "dot", ()), "item 1 dot"),
            (("figure", 2, ()), "figure 2"), (("table", 3, ()), "table 3"), (("cell", 1, 2, ()), "cell 1 2"),
        ):
            self.assertEqual(show_row(row), line)


if __name__ == "__main__":
    unittest.main()
