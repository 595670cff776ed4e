"""Point 18: Printings, their SIZEs, screens and plain texts, and what is refused."""

import inspect
import unittest

from papertongue import printing
from papertongue.documents import Document, document_of
from papertongue.errors import NoDocument, NoMark, NoSize, TooTall
from papertongue.printing import MOST_HIGH, MOST_WIDE, Printing, as_plain, on_pages, on_screen, printed
from papertongue.texts import Text

from helper import NUMBERS, OTHER_THINGS, cell, document, dot, figure, head, num, para, refused, table

BREAK = ("break",)
DONE = ("done",)
MADE = document(head(1, "One @m"), para("a { b } ~m"), BREAK, para("c @n"), para("@nowhere"))
TALL = document(para("x"), *[head(1)] * 13)


class Sized(unittest.TestCase):
    def test_what_is_most(self):
        self.assertEqual((MOST_WIDE, MOST_HIGH), (40, 24))

    def test_each_size(self):
        for size in [("plain",), ("screen", 24), ("screen", 40), ("pages", 24, 10), ("pages", 40, 24), ("pages", 31, 17)]:
            made = printed(MADE, size)
            self.assertIs(type(made), Printing)
            self.assertEqual(made.size, size)

    def test_by_names(self):
        self.assertEqual(printed(size=("plain",), document=MADE), as_plain(document=MADE))
        self.assertEqual(on_pages(document=MADE, height=11, width=25), printed(MADE, ("pages", 25, 11)))
        self.assertEqual(on_screen(width=25, document=MADE), printed(MADE, ("screen", 25)))

    def test_where_they_are_left_out(self):
        self.assertEqual(on_pages(MADE).size, ("pages", 40, 24))
        self.assertEqual(on_pages(MADE, width=30).size, ("pages", 30, 24))
        self.assertEqual(on_pages(MADE, height=12).size, ("pages", 40, 12))
        self.assertEqual(on_screen(MADE).size, ("screen", 40))
        self.assertEqual(as_plain(MADE).size, ("plain",))

    def test_arguments_by_name_alone(self):
        for asked, names in ((on_pages, ["width", "height"]), (on_screen, ["width"])):
            told = inspect.signature(asked).parameters.values()
            self.assertEqual([one.name for one in told if one.kind is one.KEYWORD_ONLY], names)

    def test_each_is_defined_there(self):
        for name in ("Printing", "printed", "on_pages", "on_screen", "as_plain"):
            self.assertEqual(getattr(printing, name).__module__, "papertongue.printing")


class Pages(unittest.TestCase):
    def test_values(self):
        made = printed(MADE, ("pages", 24, 10))
        self.assertEqual(made.pages, (
            ("1 One                  1", "1 One", "", "a (1) 1", "-----", "(1) b"), ("1 One                  2", "c")))
        self.assertEqual(made.rounds, ((1,),))
        self.assertEqual(made.ends, (("break", 2), ("end",)))

    def test_as_a_text(self):
        made = printed(MADE, ("pages", 24, 10))
        lines = list(made.pages[0]) + ["=" * 24] + list(made.pages[1])
        self.assertEqual(str(made), "\n".join(lines))
        self.assertEqual(len(made), 2)
        self.assertEqual(repr(made), "Printing(pages 2)")
        three = on_pages(document(para("x"), BREAK, para("y"), BREAK, para("z")), width=33)
        self.assertEqual(str(three).split("\n")[2::3], ["=" * 33] * 2)

    def test_without_lines(self):
        for made in (document(), document(para("@a"), BREAK, ("contents", 1), ("when", "plain"), para("x"), DONE)):
            told = on_pages(made)
            self.assertEqual((told.pages, told.ends, told.rounds), ((), (), ((),)))
            self.assertEqual((str(told), len(told), repr(told)), ("", 0, "Printing(pages 0)"))


class Screens(unittest.TestCase):
    def test_values(self):
        made = on_screen(MADE, width=24)
        self.assertEqual(made.pages, (("1 One", "", "a (1) 1", "", "c", "-----", "(1) b"),))
        self.assertEqual(made.ends, (("end",),))
        self.assertEqual(str(made), "\n".join(made.pages[0]))
        self.assertEqual((len(made), repr(made)), (1, "Printing(screen 1)"))

    def test_figures_in_their_places_and_no_breaks(self):
        made = on_screen(document(dot(1), figure(2), BREAK, dot(1), *[figure(6)] * 5), width=24)
        self.assertEqual(made.pages[0][:6], ("-", "", ":" * 24, ":" * 24, "Figure 1.", "-"))
        self.assertEqual(len(made.pages[0]), 6 + 5 * 8)

    def test_foot_notes_behind_end_notes_behind_all_rows(self):
        made = on_screen(document(para("a { b } [ c ]"), ("endnotes",), para("d { e } [ f ]")), width=24)
        self.assertEqual(made.pages[0], (
            "a (1) [1]", "", "[1] c", "[2] f", "", "d (2) [2]", "-----", "(1) b", "(2) e"))
        made = on_screen(document(para("a { b } [ c ]"), para("d { e } [ f ]")), width=24)
        self.assertEqual(made.pages[0][-6:], ("", "[1] c", "[2] f", "-----", "(1) b", "(2) e"))

    def test_empty_lines_ahead_of_the_first(self):
        style = ("style", "s", 0, 0, 2, "left")
        self.assertEqual(on_screen(document(style, para("a", "s"), para("b", "s"))).pages, (("a", "", "", "b"),))
        self.assertEqual(on_screen(document(BREAK, figure(1))).pages[0][0], ":" * 40)

    def test_nothing_is_too_tall(self):
        self.assertEqual(len(on_screen(TALL).pages[0]), 27)

    def test_without_lines(self):
        made = on_screen(document(BREAK, para()))
        self.assertEqual((made.pages, made.ends, str(made), repr(made)), ((), (), "", "Printing(screen 0)"))


class PlainTexts(unittest.TestCase):
    def lines(self, *rows):
        made = as_plain(document(*rows))
        self.assertLessEqual(len(made), 1)
        return list(made.pages[0]) if made.pages else []

    def test_values(self):
        made = as_plain(MADE)
        self.assertEqual(made.pages, (("1 One", "a (1) 1", "(1) b", "c"),))
        self.assertEqual(made.ends, (("end",),))
        self.assertEqual((str(made), len(made), repr(made)), ("1 One\na (1) 1\n(1) b\nc", 1, "Printing(plain 1)"))

    def test_a_line_for_each_row(self):
        style = ("style", "s", 6, 4, 2, "right")
        rows = [style, head(2, "a b"), para("c d", "s"), dot(3, "e f"), num(2, "g"), figure(6, "h"), BREAK]
        self.assertEqual(self.lines(*rows), ["0.1 a b", "c d", "- e f", "1. g", "Figure 1. h"])

    def test_without_words(self):
        self.assertEqual(self.lines(head(1), para(), para("@a"), dot(1), num(1), figure(1)), [
            "1", "-", "1.", "Figure 1."])

    def test_nothing_is_cut(self):
        text = " ".join(["abcdefghijkl"] * 40)
        self.assertEqual(self.lines(para(text), *table(1, "", [text])), [text, "Table 1.", text])

    def test_tables(self):
        rows = table(3, "cap", ["a b", "c", "d"], [], [cell("e", 2, 2), "f"], ["g"])
        self.assertEqual(self.lines(*rows), ["Table 1. cap", "a b | c | d", "e | f", "g"])

    def test_cells_without_words(self):
        rows = table(3, "", ["", ""], [""], ["", "", ""], ["a", "", "b"], ["", "", "c"], ["d", "@m"])
        self.assertEqual(self.lines(*rows), ["Table 1.", " |", " |  |", "a |  | b", " |  | c", "d |"])

    def test_foot_notes_behind_their_rows_line(self):
        rows = [para("a { b } { c }"), dot(1, "{ d }"), para("e"), num(1, "f [ g ]"), para("{ }")]
        self.assertEqual(self.lines(*rows), [
            "a (1) (2)", "(1) b", "(2) c", "- (3)", "(3) d", "e", "1. f [1]", "(4)", "(4)", "[1] g"])

    def test_lists(self):
        rows = [("contents", 2), ("figures",), ("index",), ("endnotes",), head(1, "A ^w"), head(2, "B"), head(3, "C")]
        rows += [figure(2, "D ^v"), para("x [ y ^w ] ^w ^w"), figure(1)]
        self.assertEqual(self.lines(*rows), [
            "1 A w 8", "1.1 B 9", "1. D v 11", "2. 13", "v 11", "w 7, 8, 12", "[1] y w", "1 A w", "1.1 B", "1.1.1 C",
            "Figure 1. D v", "x [1] w w", "Figure 2."])

    def test_end_notes_behind_all(self):
        self.assertEqual(self.lines(para("a [ b ]"), para("c")), ["a [1]", "c", "[1] b"])

    def test_what_is_shown(self):
        rows = [("when", "screen"), para("a"), DONE, ("when", "plain"), para("b"), *table(1, "", ["c"]), DONE]
        self.assertEqual(self.lines(*rows), ["b", "Table 1.", "c"])

    def test_without_lines(self):
        made = as_plain(document(*[para()] * 3))
        self.assertEqual((made.pages, made.ends, made.rounds), ((), (), ((),)))
        self.assertEqual((str(made), len(made), repr(made)), ("", 0, "Printing(plain 0)"))


class Stands(unittest.TestCase):
    def test_pages_and_lines(self):
        self.assertEqual([on_pages(MADE).stands(name) for name in ("m", "n", "nowhere")], [1, 2, None])
        self.assertEqual([on_screen(MADE).stands(name) for name in ("m", "n", "nowhere")], [1, 5, None])
        self.assertEqual([as_plain(MADE).stands(name=name) for name in ("m", "n", "nowhere")], [1, 4, None])

    def test_hidden(self):
        made = document(("when", "pages"), para("x @m"), DONE)
        self.assertEqual(on_pages(made).stands("m"), 1)
        self.assertIs(on_screen(made).stands("m"), None)
        self.assertIs(as_plain(made).stands("m"), None)

    def test_no_mark(self):
        made = as_plain(MADE)
        for thing in OTHER_THINGS + NUMBERS + ["", "x", "M", "@m", "mm", ("m",)]:
            self.assertIs(refused(self, NoMark, "name", thing, made.stands, thing).name, thing)


class Alike(unittest.TestCase):
    def test_where_sizes_and_pages_are(self):
        self.assertEqual(as_plain(document(para("x"))), as_plain(document(para("x"), BREAK)))
        self.assertEqual(on_screen(MADE), on_screen(MADE))
        self.assertNotEqual(as_plain(document(para("x"))), as_plain(document(para("y"))))

    def test_alike_pages_of_unlike_sizes(self):
        made = document(para("x"))
        all_told = [as_plain(made), on_screen(made, width=24), on_screen(made, width=25)]
        for at, one in enumerate(all_told):
            for other in all_told[:at]:
                self.assertEqual(one.pages, other.pages)
                self.assertTrue(one != other)

    def test_rounds_do_not_matter(self):
        one = document(para("1 @a"))
        other = document(para("~a @a"))
        self.assertNotEqual(as_plain(one).rounds, as_plain(other).rounds)
        self.assertEqual(as_plain(one), as_plain(other))

    def test_not_a_thing_of_another_kind(self):
        made = as_plain(MADE)
        for thing in OTHER_THINGS + [MADE, made.pages, str(made)]:
            if type(thing).__name__ != "Sly":
                self.assertFalse(made == thing)


class Refused(unittest.TestCase):
    def test_no_document(self):
        for thing in OTHER_THINGS + NUMBERS + ["", (), Text((para("x"),)), as_plain(MADE)]:
            if type(thing) is not Document:
                refused(self, NoDocument, "place", None, printed, thing, ("plain",))
                refused(self, NoDocument, "place", None, printed, thing, None)
                refused(self, NoDocument, "place", None, on_pages, thing, width=0)
                refused(self, NoDocument, "place", None, on_screen, thing, width=None)
                refused(self, NoDocument, "place", None, as_plain, document=thing)

    def test_no_size(self):
        sizes = ["plain", "screen", "pages", (), ("Plain",), ("plain", 24), ("plain", 24, 10), ("screen",), ("pages",)]
        sizes += [["plain"], ["screen", 24], ["pages", 24, 10], ("screen", 24, 10), ("pages", 24), ("pages", 24, 10, 1)]
        sizes += [("screen", 23), ("screen", 41), ("screen", "24"), ("screen", True), ("screen", None), ("screen", [24])]
        sizes += [("pages", 23, 10), ("pages", 41, 10), ("pages", 24, 9), ("pages", 24, 25), ("pages", 24, None)]
        sizes += [("pages", None, 10), ("pages", 24, True), (("pages",), 24, 10), (24, 10), ("page", 24, 10), (None,)]
        sizes += [("pages", 10, 24), ("screen", -24), ("screen", 10 ** 30)]
        for thing in OTHER_THINGS + NUMBERS + sizes:
            self.assertIs(refused(self, NoSize, "size", thing, printed, MADE, thing).size, thing)

    def test_no_size_of_a_screen(self):
        for thing in OTHER_THINGS + [23, 41, 0, -1, "24", (24,)]:
            told = refused(self, NoSize, "size", ("screen", thing), on_screen, MADE, width=thing)
            self.assertIs(told.size[1], thing)

    def test_no_size_of_pages(self):
        for thing in OTHER_THINGS + [41, 9, 0, -1, "24", (24,)]:
            refused(self, NoSize, "size", ("pages", thing, 24), on_pages, MADE, width=thing)
            refused(self, NoSize, "size", ("pages", 40, thing), on_pages, MADE, height=thing)
            refused(self, NoSize, "size", ("pages", thing, thing), on_pages, MADE, height=thing, width=thing)
        refused(self, NoSize, "size", ("pages", 23, 24), on_pages, MADE, width=23)
        refused(self, NoSize, "size", ("pages", 40, 9), on_pages, MADE, height=9)
        refused(self, NoSize, "size", ("pages", 40, 25), on_pages, MADE, height=25)

    def test_by_arguments_from_the_left(self):
        refused(self, NoDocument, "place", None, printed, None, None)
        refused(self, NoSize, "size", ("pages", 24, 9), printed, TALL, ("pages", 24, 9))
        refused(self, TooTall, "row", 1, printed, TALL, ("pages", 24, 10))
        refused(self, TooTall, "row", 1, on_pages, document=TALL)

    def test_nothing_handed_in_changes(self):
        made = document_of(Text((para("~a"), head(1, "@a"))))
        rows, texts = made.rows, made.texts
        printed(made, ("pages", 24, 10))
        self.assertIs(made.rows, rows)
        self.assertIs(made.texts, texts)
        self.assertEqual(made.rows, (para("~a"), head(1, "@a")))


if __name__ == "__main__":
    unittest.main()
