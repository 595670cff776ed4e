"""Point 8: Documents, their TEXTS and ROWS, what is shown, and what is refused."""

import unittest

from papertongue.documents import Document, document_of
from papertongue.errors import NoInclude, NoKind, NoMark, NoRows, NoStyle, NoTexts, Ring, TooMany, Twice
from papertongue.texts import Text

from helper import NUMBERS, OTHER_THINGS, cell, document, dot, figure, head, num, para, refused, table

STYLE = ("style", "quote", 1, 2, 0, "left")
COUNTER = ("counter", "item", "a", 0)
BREAK = ("break",)


def include(name):
    return ("include", name)


def texts(**named):
    """TEXTS of NAMEs and lists of rows."""
    return tuple((name, Text(tuple(rows))) for name, rows in named.items())


class MadeOf(unittest.TestCase):
    def test_a_text_alone(self):
        rows = (head(1, "a"), para("b"))
        made = document_of(Text(rows))
        self.assertIs(type(made), Document)
        self.assertEqual(made.rows, rows)
        self.assertEqual(made.texts, (("main", Text(rows)),))

    def test_by_names_of_arguments(self):
        told = texts(a=[BREAK])
        self.assertEqual(Document(texts=told), Document(told))
        self.assertEqual(document_of(text=Text((BREAK,))), Document(told))
        self.assertEqual(Document(told).shown_in(kind="plain"), (0,))

    def test_texts_are_as_handed_in(self):
        told = texts(b=[include("a")], a=[BREAK])
        self.assertIs(Document(told).texts, told)

    def test_one_text_of_a_name_that_is_not_main(self):
        self.assertEqual(Document(texts(other=[BREAK])).rows, (BREAK,))

    def test_a_text_without_rows(self):
        made = Document(texts(a=[]))
        self.assertEqual(made.rows, ())
        self.assertEqual(len(made), 0)
        self.assertEqual(str(made), "")
        self.assertEqual(repr(made), "Document(0)")

    def test_includes_give_way_to_rows(self):
        made = Document(texts(a=[para("x"), include("b"), para("z")], b=[para("y"), BREAK]))
        self.assertEqual(made.rows, (para("x"), para("y"), BREAK, para("z")))

    def test_includes_of_includes(self):
        made = Document(texts(
            a=[include("b"), para("one"), include("c")], b=[para("two"), include("c"), para("three")],
            c=[para("four"), include("d")], d=[BREAK]))
        self.assertEqual(made.rows, (
            para("two"), para("four"), BREAK, para("three"), para("one"), para("four"), BREAK))

    def test_a_text_included_thrice(self):
        made = Document(texts(a=[include("b"), include("b"), para("x"), include("b")], b=[BREAK, BREAK]))
        self.assertEqual(made.rows, (BREAK, BREAK, BREAK, BREAK, para("x"), BREAK, BREAK))

    def test_texts_without_rows_within(self):
        made = Document(texts(a=[include("b"), para("x"), include("b")], b=[]))
        self.assertEqual(made.rows, (para("x"),))

    def test_a_text_that_stands_nowhere(self):
        self.assertEqual(Document(texts(a=[BREAK], b=[para("x")])).rows, (BREAK,))

    def test_a_text_that_includes_the_first(self):
        self.assertEqual(Document(texts(a=[STYLE, BREAK], b=[include("a")])).rows, (STYLE, BREAK))

    def test_six_texts(self):
        made = Document(texts(
            a=[include("b"), include("f")], b=[include("c")], c=[include("d")], d=[include("e")], e=[include("f")],
            f=[BREAK]))
        self.assertEqual(made.rows, (BREAK, BREAK))

    def test_within_a_when(self):
        made = Document(texts(a=[("when", "pages"), include("b"), ("done",)], b=[("when", "screen"), BREAK, ("done",)]))
        self.assertEqual(made.rows, (("when", "pages"), ("when", "screen"), BREAK, ("done",), ("done",)))

    def test_more_than_three_whens_through_includes(self):
        deep = [("when", "pages")] * 3
        made = Document(texts(
            a=deep + [include("b")] + [("done",)] * 3, b=deep + [include("c")] + [("done",)] * 3, c=[BREAK]))
        self.assertEqual(made.rows, tuple(deep * 2) + (BREAK,) + (("done",),) * 6)
        self.assertEqual(made.shown_in("pages"), (6,))
        self.assertEqual(made.shown_in("plain"), ())


class Alike(unittest.TestCase):
    def test_where_rows_are(self):
        one = Document(texts(a=[include("b")], b=[BREAK]))
        self.assertEqual(one, document(BREAK))
        self.assertNotEqual(one, document(BREAK, BREAK))

    def test_not_a_thing_of_another_kind(self):
        made = document(BREAK)
        for thing in OTHER_THINGS + [Text((BREAK,)), (BREAK,), "break", 1]:
            if type(thing).__name__ != "Sly":
                self.assertFalse(made == thing)
                self.assertTrue(made != thing)

    def test_what_it_is_as_a_text(self):
        made = Document(texts(a=[STYLE, include("b"), para("x", "quote")], b=[head(1), BREAK]))
        self.assertEqual(len(made), 4)
        self.assertEqual(str(made), "style quote 1 2 0 left\nhead 1\nbreak\npara quote x")
        self.assertEqual(repr(made), "Document(4)")


class NoTextsAre(unittest.TestCase):
    def test_of_no_tuple(self):
        for thing in OTHER_THINGS + NUMBERS + ["", "a", "main"]:
            refused(self, NoTexts, "place", None, Document, thing)

    def test_none_and_too_many(self):
        refused(self, NoTexts, "place", None, Document, ())
        seven = tuple(("abcdefg"[at], Text()) for at in range(7))
        refused(self, NoTexts, "place", None, Document, seven)
        refused(self, NoTexts, "place", None, Document, texts=seven[:1] * 7)
        self.assertEqual(len(Document(seven[:6]).texts), 6)

    def test_what_is_no_pair(self):
        for thing in OTHER_THINGS + NUMBERS + ["ab", (), ("a",), ("a", Text(), Text()), ["a", Text()], (Text(), "a")]:
            refused(self, NoTexts, "place", 0, Document, (thing,))
            refused(self, NoTexts, "place", 1, Document, (("a", Text()), thing, 5))

    def test_no_name(self):
        for thing in OTHER_THINGS + NUMBERS + ["", "A", "a1", "abcdefghi", "-", "a b"]:
            refused(self, NoTexts, "place", 0, Document, ((thing, Text()),))
        self.assertEqual(len(Document((("abcdefgh", Text()),))), 0)

    def test_no_text(self):
        for thing in OTHER_THINGS + NUMBERS + ["", (BREAK,), ()]:
            if type(thing) is not Text:
                refused(self, NoTexts, "place", 1, Document, (("b", Text()), ("a", thing)))

    def test_a_name_twice(self):
        refused(self, NoTexts, "place", 2, Document, (("a", Text()), ("b", Text()), ("a", Text()), ("c", None)))

    def test_rules_in_a_second_text(self):
        for rule in (STYLE, COUNTER):
            refused(self, NoTexts, "place", 1, Document, texts(a=[rule, include("b")], b=[rule]))
            refused(self, NoTexts, "place", 2, Document, texts(a=[rule], b=[], c=[rule], d=[rule]))

    def test_ahead_of_all_other_refusals(self):
        told = texts(a=[include("zz"), include("a"), para("x", "none"), para("#no")], b=[STYLE])
        refused(self, NoTexts, "place", 1, Document, told)


class NoIncludes(unittest.TestCase):
    def test_of_a_name_that_there_is_not(self):
        refused(self, NoInclude, "name", "b", Document, texts(a=[include("b")]))
        refused(self, NoInclude, "name", "b", document_of, Text((include("b"),)))

    def test_the_first_by_texts_and_rows(self):
        told = texts(a=[include("b"), include("c")], b=[BREAK, include("z"), include("y")], c=[include("x")])
        refused(self, NoInclude, "name", "z", Document, told)

    def test_of_a_text_that_stands_nowhere(self):
        refused(self, NoInclude, "name", "x", Document, texts(a=[], b=[include("x")]))

    def test_the_name_main_is_there_alone(self):
        refused(self, NoInclude, "name", "main", Document, texts(a=[include("main")]))


class Rings(unittest.TestCase):
    def test_of_one_text(self):
        refused(self, Ring, "name", "a", Document, texts(a=[include("a")]))
        refused(self, Ring, "name", "main", document_of, Text((include("main"),)))

    def test_of_two_and_three(self):
        refused(self, Ring, "name", "a", Document, texts(a=[include("b")], b=[include("a")]))
        refused(self, Ring, "name", "a", Document, texts(a=[include("c")], b=[include("a")], c=[include("b")]))

    def test_texts_that_lead_into_one(self):
        refused(self, Ring, "name", "c", Document, texts(a=[include("b")], b=[include("c")], c=[include("c")]))
        refused(self, Ring, "name", "b", Document, texts(
            a=[include("d")], b=[include("c")], c=[include("b")], d=[include("c")]))

    def test_one_that_nothing_leads_into(self):
        refused(self, Ring, "name", "c", Document, texts(a=[BREAK], b=[include("c")], c=[include("d")], d=[include("c")]))

    def test_the_first_of_two_rings(self):
        refused(self, Ring, "name", "b", Document, texts(a=[], d=[], b=[include("b")], c=[include("c")]))

    def test_the_same_text_by_two_ways_is_none(self):
        made = Document(texts(a=[include("b"), include("c")], b=[include("d")], c=[include("d")], d=[BREAK]))
        self.assertEqual(made.rows, (BREAK, BREAK))


class TooManyRows(unittest.TestCase):
    def test_a_hundred_and_sixty(self):
        made = Document(texts(a=[include("b")] * 2, b=[BREAK] * 80))
        self.assertEqual(len(made), 160)

    def test_one_more(self):
        refused(self, TooMany, "many", 161, Document, texts(a=[BREAK, include("b"), include("b")], b=[BREAK] * 80))

    def test_rules_whens_and_all_count(self):
        rows = [STYLE, COUNTER, ("when", "plain"), include("b"), include("b"), ("done",)]
        refused(self, TooMany, "many", 164, Document, texts(a=rows, b=[BREAK] * 80))

    def test_any_number(self):
        many = [include("b")] * 80
        refused(self, TooMany, "many", 80 ** 3, Document, texts(a=many, b=[include("c")] * 80, c=[BREAK] * 80))
        refused(self, TooMany, "many", 80 ** 6, Document, texts(
            a=many, b=[include("c")] * 80, c=[include("d")] * 80, d=[include("e")] * 80, e=[include("f")] * 80,
            f=[BREAK] * 80))

    def test_any_number_of_texts_without_rows(self):
        made = Document(texts(
            a=[include("b")] * 80, b=[include("c")] * 80, c=[include("d")] * 80, d=[include("e")] * 80,
            e=[include("f")] * 80, f=[]))
        self.assertEqual(made.rows, ())

    def test_a_text_that_stands_nowhere_does_not_count(self):
        made = Document(texts(a=[BREAK], b=[include("c")] * 3, c=[BREAK] * 80))
        self.assertEqual(len(made), 1)


class Styles(unittest.TestCase):
    def test_told_ones(self):
        self.assertEqual(len(document(STYLE, para("x", "quote"), para("x", "-"))), 3)

    def test_the_first_that_no_row_tells(self):
        refused(self, NoStyle, "name", "b", document, STYLE, para("x", "quote"), para("y", "b"), para("z", "a"))

    def test_within_an_included_text(self):
        told = texts(a=[STYLE, include("b")], b=[para("x", "quote"), para("x", "other")])
        refused(self, NoStyle, "name", "other", Document, told)

    def test_in_a_row_that_is_shown_nowhere(self):
        rows = [("when", "pages"), ("when", "plain"), para("", "lost"), ("done",), ("done",)]
        refused(self, NoStyle, "name", "lost", document, *rows)

    def test_in_a_text_that_stands_nowhere(self):
        self.assertEqual(len(Document(texts(a=[BREAK], b=[para("x", "lost")]))), 1)


class TwiceThere(unittest.TestCase):
    def test_a_mark(self):
        refused(self, Twice, "name", "m", document, para("@m"), para("@n"), para("@m @n"))

    def test_a_mark_in_one_row(self):
        refused(self, Twice, "name", "b", document, para("@a @b { @b } @a"))

    def test_marks_of_rows_of_all_kinds(self):
        rows = [head(1, "@a"), para("@b"), dot(1, "@c"), num(1, "@d"), figure(1, "@e")] + table(2, "@f", ["@g", "@h"])
        for name in "abcdefgh":
            refused(self, Twice, "name", name, document, *rows, head(2, "@" + name))

    def test_a_text_with_a_mark_included_twice(self):
        refused(self, Twice, "name", "m", Document, texts(a=[include("b"), include("b")], b=[para("@m")]))

    def test_lists(self):
        refused(self, Twice, "name", "index", document, ("index",), ("endnotes",), ("index",), ("endnotes",))
        refused(self, Twice, "name", "endnotes", document, ("endnotes",), ("endnotes",))
        refused(self, Twice, "name", "index", document, ("index",), ("when", "pages"), ("index",), ("done",))

    def test_the_first_of_marks_and_lists(self):
        rows = [para("@m"), ("index",)]
        refused(self, Twice, "name", "m", document, *rows, para("@m"), ("index",))
        refused(self, Twice, "name", "index", document, *rows, ("index",), para("@m"))

    def test_what_may_stand_twice(self):
        rows = [("contents", 1), ("contents", 1), ("figures",), ("figures",), BREAK, BREAK]
        self.assertEqual(len(document(*rows)), 6)

    def test_a_mark_called_index(self):
        self.assertEqual(len(document(("index",), para("@index"), para("@endnotes"), ("endnotes",))), 4)


class NoMarks(unittest.TestCase):
    def test_each_reference(self):
        for sign in "#~&":
            refused(self, NoMark, "name", "m", document, para("@n"), para("#n " + sign + "m"))
            self.assertEqual(len(document(para(sign + "m"), para("@m"))), 2)

    def test_the_first_by_rows_and_tokens(self):
        rows = [head(1, "#a"), para("@a ~b #c"), para("&d")]
        refused(self, NoMark, "name", "b", document, *rows)
        refused(self, NoMark, "name", "c", document, *rows, para("@b"))
        refused(self, NoMark, "name", "d", document, *rows, para("@b"), para("@c"))

    def test_rows_of_all_kinds(self):
        for row in (head(1, "#x"), para("#x"), dot(1, "#x"), num(1, "{ #x }"), figure(1, "#x")):
            refused(self, NoMark, "name", "x", document, row)
        refused(self, NoMark, "name", "x", document, *table(1, "#x", ["#y"]))
        refused(self, NoMark, "name", "y", document, *table(1, "", ["a #y"]))

    def test_a_word_of_the_index_refers_to_nothing(self):
        self.assertEqual(len(document(para("^m m"))), 1)


class InThisTurn(unittest.TestCase):
    def test_all_at_once_and_one_after_the_other_left_out(self):
        missing, ring, many = [include("gone")], [include("d")], [include("e")] * 3
        rest = {"style": [para("", "lost")], "twice": [("index",), ("index",)], "mark": [para("#lost")]}
        turn = [
            (NoInclude, "name", "gone"), (Ring, "name", "d"), (TooMany, "many", 245), (NoStyle, "name", "lost"),
            (Twice, "name", "index"), (NoMark, "name", "lost"),
        ]
        for left_out, (error, field, value) in enumerate(turn):
            first = many if left_out < 3 else []
            if left_out < 4:
                first = first + rest["style"]
            if left_out < 5:
                first = first + rest["twice"]
            told = texts(
                a=first + rest["mark"] + [BREAK], b=missing if left_out < 1 else [], d=ring if left_out < 2 else [],
                e=[BREAK] * 80)
            refused(self, error, field, value, Document, told)


class DocumentOf(unittest.TestCase):
    def test_no_text(self):
        for thing in OTHER_THINGS + NUMBERS + ["", "a", (), (BREAK,), document(BREAK)]:
            if type(thing) is not Text:
                refused(self, NoRows, "place", None, document_of, thing)
        refused(self, NoRows, "place", None, document_of, text=None)

    def test_refusals_of_documents(self):
        refused(self, NoStyle, "name", "s", document_of, Text((para("", "s"),)))
        refused(self, Twice, "name", "m", document_of, Text((para("@m @m"),)))
        refused(self, NoMark, "name", "m", document_of, text=Text((para("#m"),)))


class ShownIn(unittest.TestCase):
    ROWS = (
        STYLE, COUNTER, para("0"), ("when", "pages"), para("1"), ("when", "screen"), para("2"), ("done",), ("when", "pages"),
        BREAK, ("done",), ("done",), ("when", "plain"), *table(1, "", ["x"]), ("done",), ("index",), ("when", "screen"),
        ("contents", 1), ("figures",), ("endnotes",), figure(1), ("done",))

    def test_each_kind(self):
        made = document(*self.ROWS)
        self.assertEqual(made.shown_in("pages"), (2, 4, 9, 18))
        self.assertEqual(made.shown_in("screen"), (2, 18, 20, 21, 22, 23))
        self.assertEqual(made.shown_in("plain"), (2, 13, 14, 15, 16, 18))

    def test_none(self):
        self.assertEqual(document().shown_in("pages"), ())
        self.assertEqual(document(STYLE, COUNTER).shown_in("plain"), ())

    def test_no_kind(self):
        made = document(*self.ROWS)
        for thing in OTHER_THINGS + NUMBERS + ["", "page", "Pages", "screen ", "-", "when", ("pages",), ["pages"]]:
            self.assertIs(refused(self, NoKind, "kind", thing, made.shown_in, thing).kind, thing)


if __name__ == "__main__":
    unittest.main()
