"""Point 19: from TOKENs to the print, and back from each sign."""

import unittest

from papertongue.documents import Document
from papertongue.errors import NoPlace, NoPrinting
from papertongue.places import shown, source
from papertongue.printing import Printing, as_plain, on_pages, on_screen

from helper import NUMBERS, OTHER_THINGS, cell, document, dot, figure, head, num, para, refused, table

BREAK = ("break",)
DONE = ("done",)
LINE = "abcdefghijkl"


def screen(*rows, width=24):
    return on_screen(document(*rows), width=width)


def line_sources(made, page, line):
    """What the signs of a line show."""
    return [source(made, page, line, column) for column in range(len(made.pages[page - 1][line - 1]))]


def text(row, token, many):
    return [("text", row, token, offset) for offset in range(many)]


def made_by(word, row, many=1):
    return [("made", word, row)] * many


class Shown(unittest.TestCase):
    def test_words_in_rows(self):
        made = screen(head(1, "ab ^cd"), para("e @m #m ~m &m"), num(2, "fg"))
        self.assertEqual(made.pages[0], ("1 ab cd", "", "e 1 3 above", "  1.   fg"))
        self.assertEqual(shown(made, 0, 0), ((1, 1, 2, 4),))
        self.assertEqual(shown(made, 0, 1), ((1, 1, 5, 7),))
        self.assertEqual([shown(made, 1, token) for token in range(5)], [
            ((1, 3, 0, 1),), "mark", ((1, 3, 2, 3),), ((1, 3, 4, 5),), ((1, 3, 6, 11),)])
        self.assertEqual(shown(made, 2, 0), ((1, 4, 7, 9),))

    def test_notes(self):
        made = screen(para("a { b @m } [ cd ]"))
        self.assertEqual(made.pages[0], ("a (1) [1]", "", "[1] cd", "-----", "(1) b"))
        self.assertEqual([shown(made, 0, token) for token in range(8)], [
            ((1, 1, 0, 1),), ((1, 1, 2, 5),), ((1, 5, 4, 5),), "mark", "close", ((1, 1, 6, 9),), ((1, 3, 4, 6),), "close"])

    def test_captions_and_cells(self):
        made = screen(figure(1, "a"), *table(2, "b", ["c", cell("d", 2)], ["e"]))
        self.assertEqual(made.pages[0], (":" * 24, "Figure 1. a", "", "Table 1. b", "c           d", "e"))
        self.assertEqual([shown(made, row, 0) for row in (0, 1, 3, 4, 6)], [
            ((1, 2, 10, 11),), ((1, 4, 9, 10),), ((1, 5, 0, 1),), ((1, 5, 12, 13),), ((1, 6, 0, 1),)])

    def test_cut_words(self):
        made = screen(*table(4, "", ["x", "ab " + LINE], ["y"]))
        self.assertEqual(made.pages[0][1:], ("x     ab", "      abcde", "      fghij", "      kl", "y"))
        self.assertEqual(shown(made, 3, 1), ((1, 3, 6, 11), (1, 4, 6, 11), (1, 5, 6, 8)))

    def test_parts_of_a_paragraph_on_two_pages(self):
        made = on_pages(document(*[dot(1)] * 6, para(" ".join([LINE] * 4))), width=24, height=10)
        self.assertEqual([shown(made, 6, token) for token in range(4)], [
            ((1, 9, 0, 12),), ((1, 10, 0, 12),), ((2, 2, 0, 12),), ((2, 3, 0, 12),)])

    def test_a_figure_that_waited(self):
        made = on_pages(document(*[dot(1)] * 9, figure(1, "@a b"), dot(1, "c")), width=24, height=10)
        self.assertEqual(shown(made, 9, 1), ((2, 3, 10, 11),))
        self.assertEqual(shown(made, 10, 0), ((2, 4, 5, 6),))

    def test_not_those_of_lists_and_tops(self):
        made = on_pages(document(("contents", 1), ("index",), head(1, "^a")), width=24, height=10)
        self.assertEqual(made.pages[0], (
            "1 a                    1", "1 a................    1", "", "a 1", "", "1 a"))
        self.assertEqual(shown(made, 2, 0), ((1, 6, 2, 3),))

    def test_dots_ahead_of_a_place_belong_to_it(self):
        full = "abcdefghijkl mnopqrstuvw"
        turning = para(f"{full} {full} {LINE} mnopqrstu ~m")
        made = on_pages(document(*[para("x"), BREAK] * 8, turning, figure(4), para("@m x")), width=24, height=10)
        self.assertEqual(made.pages[8][4], ".9")
        self.assertEqual(shown(made, 16, 6), ((9, 5, 0, 2),))
        self.assertEqual(line_sources(made, 9, 5), text(16, 6, 2))

    def test_hidden(self):
        made = screen(("when", "pages"), para("a @b { c }"), *table(1, "d", ["e"]), DONE, para("f"))
        for row, many in ((1, 5), (2, 1), (4, 1)):
            for token in range(many):
                self.assertEqual(shown(made, row, token), "hidden")
        self.assertEqual(shown(made, 7, 0), ((1, 1, 0, 1),))

    def test_in_a_plain_text(self):
        made = as_plain(document(num(1, "a { b } c"), *table(2, "d", ["e f", "g"])))
        self.assertEqual(made.pages[0], ("1. a (1) c", "(1) b", "Table 1. d", "e f | g"))
        self.assertEqual(shown(made, 0, 4), ((1, 1, 9, 10),))
        self.assertEqual(shown(made, 0, 2), ((1, 2, 4, 5),))
        self.assertEqual(shown(made, 3, 1), ((1, 4, 2, 3),))
        self.assertEqual(shown(made, 4, 0), ((1, 4, 6, 7),))

    def test_behind_a_cell_without_words_in_a_plain_text(self):
        made = as_plain(document(*table(2, "", ["", "ab"])))
        self.assertEqual(made.pages[0][1], " | ab")
        self.assertEqual(shown(made, 3, 0), ((1, 2, 3, 5),))
        self.assertEqual(line_sources(made, 1, 2), made_by("fill", 1, 3) + text(3, 0, 2))

    def test_by_names(self):
        made = screen(para("a"))
        self.assertEqual(shown(token=0, printing=made, row=0), ((1, 1, 0, 1),))

    def test_what_there_is_not(self):
        made = screen(para("a b"), ("break",), *table(1, "", ["c"]), ("when", "plain"), para("d"), DONE)
        for row, token in [
                (0, 2), (0, -1), (0, 40), (1, 0), (2, 0), (3, 0), (4, 1), (5, 0), (6, 0), (7, 1), (8, 0), (9, 0), (-1, 0),
                (-9, 0), (0, None), (None, 0)]:
            refused(self, NoPlace, "place", (row, token), shown, made, row, token)

    def test_what_there_is_not_of_any_kind(self):
        made = screen(para("a b"), para("c d"))
        for place in ((-1, 0), (0, -1), (2, 0), (1, 2)):
            refused(self, NoPlace, "place", place, shown, made, *place)
        for thing in OTHER_THINGS + ["", "0", (0,)]:
            told = refused(self, NoPlace, "place", (thing, 0), shown, made, thing, 0)
            self.assertIs(told.place[0], thing)
            refused(self, NoPlace, "place", (1, thing), shown, printing=made, row=1, token=thing)


class Source(unittest.TestCase):
    def test_heads_and_paragraphs(self):
        made = screen(("style", "s", 2, 1, 0, "right"), head(1, "ab"), para("c ^de", "s"))
        self.assertEqual(line_sources(made, 1, 1), made_by("number", 1) + made_by("fill", 1) + text(1, 0, 2))
        self.assertEqual(line_sources(made, 1, 2), (
            made_by("fill", 2, 20) + text(2, 0, 1) + made_by("fill", 2) + text(2, 1, 2)))

    def test_items(self):
        made = screen(dot(2, "a"), num(1, LINE + " bcdefghi"))
        self.assertEqual(line_sources(made, 1, 1), (
            made_by("fill", 0, 2) + made_by("number", 0) + made_by("fill", 0, 4) + text(0, 0, 1)))
        self.assertEqual(line_sources(made, 1, 2), made_by("number", 1, 2) + made_by("fill", 1, 3) + text(1, 0, 12))
        self.assertEqual(line_sources(made, 1, 3), made_by("fill", 1, 5) + text(1, 1, 8))

    def test_figures(self):
        made = screen(figure(2, "a"))
        self.assertEqual(line_sources(made, 1, 2), made_by("picture", 0, 24))
        self.assertEqual(line_sources(made, 1, 3), (
            made_by("number", 0, 6) + made_by("fill", 0) + made_by("number", 0, 2) + made_by("fill", 0) + text(0, 0, 1)))

    def test_notes(self):
        made = screen(para("x"), para("{ a } [ b ]"))
        self.assertEqual(made.pages[0], ("x", "", "(1) [1]", "", "[1] b", "-----", "(1) a"))
        self.assertEqual(line_sources(made, 1, 3), text(1, 0, 3) + made_by("fill", 1) + text(1, 3, 3))
        self.assertEqual(line_sources(made, 1, 5), made_by("number", 1, 3) + made_by("fill", 1) + text(1, 4, 1))
        self.assertEqual(line_sources(made, 1, 6), made_by("rule", None, 5))
        self.assertEqual(line_sources(made, 1, 7), made_by("number", 1, 3) + made_by("fill", 1) + text(1, 1, 1))

    def test_tables(self):
        made = screen(*table(3, "a", [cell("b c", 2), "d"], ["e"]))
        self.assertEqual(made.pages[0], ("Table 1. a", "b c     d", "        e"))
        self.assertEqual(line_sources(made, 1, 1), (
            made_by("number", 0, 5) + made_by("fill", 0) + made_by("number", 0, 2) + made_by("fill", 0) + text(0, 0, 1)))
        self.assertEqual(line_sources(made, 1, 2), (
            text(2, 0, 1) + made_by("fill", 1) + text(2, 1, 1) + made_by("fill", 1, 5) + text(3, 0, 1)))
        self.assertEqual(line_sources(made, 1, 3), made_by("fill", 4, 8) + text(5, 0, 1))

    def test_a_deep_cell_in_the_line_of_a_later_row(self):
        made = screen(*table(4, "", [cell("a b c d", 2), "e"], ["f"]))
        self.assertEqual(made.pages[0][1:], ("a b c e", "d     f"))
        self.assertEqual(line_sources(made, 1, 3), text(2, 3, 1) + made_by("fill", 4, 5) + text(5, 0, 1))

    def test_contents_and_figures(self):
        made = screen(("contents", 2), ("figures",), head(2, "ab"), figure(1, "c"))
        self.assertEqual(made.pages[0][:3], ("  0.1 ab...........    5", "", "1. c...............    8"))
        self.assertEqual(line_sources(made, 1, 1), (
            made_by("fill", 0, 2) + made_by("list", 0, 3) + made_by("fill", 0) + made_by("list", 0, 13)
            + made_by("fill", 0, 4) + made_by("list", 0)))
        self.assertEqual(line_sources(made, 1, 3), (
            made_by("list", 1, 2) + made_by("fill", 1) + made_by("list", 1, 16) + made_by("fill", 1, 4)
            + made_by("list", 1)))

    def test_the_index(self):
        made = screen(dot(1), ("index",), *[dot(1, "^" + LINE)] * 7)
        self.assertEqual(made.pages[0][2:4], ("abcdefghijkl 5, 6, 7, 8,", "  9, 10, 11"))
        self.assertEqual(line_sources(made, 1, 3), (
            made_by("list", 1, 12) + (made_by("fill", 1) + made_by("list", 1, 2)) * 4))
        self.assertEqual(line_sources(made, 1, 4), (
            made_by("fill", 1, 2) + made_by("list", 1, 2) + made_by("fill", 1) + made_by("list", 1, 3) + made_by("fill", 1)
            + made_by("list", 1, 2)))

    def test_tops(self):
        made = on_pages(document(para("x"), BREAK, head(1, "ab @m cd"), BREAK, para("{ y }")), width=24, height=10)
        self.assertEqual(line_sources(made, 1, 1), made_by("fill", None, 23) + made_by("top", None))
        for page in (2, 3):
            self.assertEqual(line_sources(made, page, 1), (
                made_by("top", 2) + made_by("fill", None) + made_by("top", 2, 2) + made_by("fill", None)
                + made_by("top", 2, 2) + made_by("fill", None, 16) + made_by("top", 2)))
        self.assertEqual(line_sources(made, 3, 3), made_by("rule", None, 5))

    def test_a_plain_text(self):
        made = as_plain(document(("contents", 1), head(1, "a"), *table(3, "", ["b", "", "c"]), ("index",), num(1, "^d")))
        self.assertEqual(made.pages[0], ("1 a 2", "1 a", "Table 1.", "b |  | c", "d 6", "1. d"))
        self.assertEqual(line_sources(made, 1, 1), (
            made_by("list", 0) + made_by("fill", 0) + made_by("list", 0) + made_by("fill", 0) + made_by("list", 0)))
        self.assertEqual(line_sources(made, 1, 4), text(4, 0, 1) + made_by("fill", 3, 6) + text(6, 0, 1))
        self.assertEqual(line_sources(made, 1, 5), made_by("list", 8) + made_by("fill", 8) + made_by("list", 8))
        self.assertEqual(line_sources(made, 1, 6), made_by("number", 9, 2) + made_by("fill", 9) + text(9, 0, 1))

    def test_offsets_in_cut_words(self):
        made = screen(*table(4, "", [LINE]))
        self.assertEqual(line_sources(made, 1, 3), [("text", 2, 0, 5 + at) for at in range(5)])
        self.assertEqual(line_sources(made, 1, 4), [("text", 2, 0, 10), ("text", 2, 0, 11)])

    def test_by_names(self):
        made = screen(para("ab"))
        self.assertEqual(source(column=1, line=1, page=1, printing=made), ("text", 0, 0, 1))

    def test_no_sign_there(self):
        made = on_pages(document(head(1, "a"), para("b")), width=24, height=10)
        self.assertEqual(made.pages[0][1:], ("1 a", "", "b"))
        for place in [(0, 1, 0), (2, 1, 0), (-1, 1, 0), (1, 0, 0), (1, 5, 0), (1, -1, 0), (1, 1, 24), (1, 1, -1), (1, 2, 3),
                      (1, 3, 0), (1, 4, 1), (10 ** 30, 1, 0), (1, 10 ** 30, 0), (1, 1, 10 ** 30)]:
            refused(self, NoPlace, "place", place, source, made, *place)
        refused(self, NoPlace, "place", (1, 1, 0), source, screen(), 1, 1, 0)

    def test_no_sign_of_any_kind(self):
        made = screen(para("abc"))
        for thing in OTHER_THINGS + ["", "1", (1,)]:
            for place in ((thing, 1, 1), (1, thing, 1), (1, 1, thing), (thing, thing, thing)):
                refused(self, NoPlace, "place", place, source, made, *place)


class NoPrintings(unittest.TestCase):
    def test_of_any_kind(self):
        for thing in OTHER_THINGS + NUMBERS + ["", (), (("a",),), document(para("x"))]:
            if type(thing) is not Printing:
                self.assertIs(refused(self, NoPrinting, "printing", thing, shown, thing, None, None).printing, thing)
                refused(self, NoPrinting, "printing", thing, source, thing, None, None, None)
                refused(self, NoPrinting, "printing", thing, source, printing=thing, page=1, line=1, column=0)


if __name__ == "__main__":
    unittest.main()
