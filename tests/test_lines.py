"""Points 13, 14 and 15: the lines of heads, paragraphs, items, figures, notes, tables and lists."""

import unittest

from papertongue.printing import on_pages, on_screen

from helper import cell, document, dot, figure, head, num, para, table

WHEN_PLAIN = ("when", "plain")
DONE = ("done",)
LONG = "abcdefghijkl"


def screen(*rows, width=24):
    """The lines of a screen."""
    pages = on_screen(document(*rows), width=width).pages
    return list(pages[0]) if pages else []


class Heads(unittest.TestCase):
    def test_number_and_words_in_the_whole_width(self):
        self.assertEqual(screen(head(1, "abcdefghijkl mnopqrst u v")), ["1 abcdefghijkl mnopqrst", "u v"])
        self.assertEqual(screen(head(3, "abcde fghijkl mnopqr s")), ["0.0.1 abcde fghijkl", "mnopqr s"])

    def test_without_words(self):
        self.assertEqual(screen(head(1), head(2)), ["1", "", "1.1"])

    def test_before(self):
        self.assertEqual(screen(dot(1), head(1), dot(1)), ["-", "", "1", "-"])


class Paragraphs(unittest.TestCase):
    def test_plain_style(self):
        self.assertEqual(screen(para("abcdefghijkl mno pqrstuv w"), para("x")), [
            "abcdefghijkl mno pqrstuv", "w", "", "x"])

    def test_indent_and_first(self):
        for indent in range(7):
            for first in range(5):
                style = ("style", "s", indent, first, 0, "left")
                lines = screen(style, para("a " * 30, "s"))
                count = (24 - indent - first + 1) // 2
                further = (24 - indent + 1) // 2
                self.assertEqual(lines[0], " " * (indent + first) + " ".join("a" * count))
                self.assertEqual(lines[1], " " * indent + " ".join("a" * min(further, 30 - count)))

    def test_before(self):
        for before in range(3):
            style = ("style", "s", 0, 0, before, "left")
            lines = screen(style, para("a", "s"), para("b", "s"), dot(1), para("c", "s"), width=30)
            empty = [""] * before
            self.assertEqual(lines, ["a"] + empty + ["b", "-"] + empty + ["c"])

    def test_right(self):
        style = ("style", "s", 3, 2, 0, "right")
        self.assertEqual(screen(style, para("abcdefghijkl mnop qrs tuvwxyz a b c d e", "s")), [
            "       abcdefghijkl mnop", "   qrs tuvwxyz a b c d e"])

    def test_right_ends_at_width_in_each_line(self):
        style = ("style", "s", 2, 4, 0, "right")
        lines = screen(style, para("abcdefghijkl mnopqrst u v abcdefghijkl xy", "s"), width=26)
        self.assertEqual(lines, [
            "              abcdefghijkl", "              mnopqrst u v", "           abcdefghijkl xy"])

    def test_middle(self):
        style = ("style", "s", 0, 0, 0, "middle")
        self.assertEqual(screen(style, para("a", "s")), [" " * 11 + "a"])
        self.assertEqual(screen(style, para("ab", "s")), [" " * 11 + "ab"])
        self.assertEqual(screen(style, para("a", "s"), width=25), [" " * 12 + "a"])

    def test_middle_with_indent_and_first(self):
        style = ("style", "s", 4, 3, 0, "middle")
        self.assertEqual(screen(style, para("abcdefghijkl mnopqr s tuv abcdefghij", "s")), [
            " " * 7 + "  " + "abcdefghijkl", " " * 4 + " " * 4 + "mnopqr s tuv", " " * 4 + " " * 5 + "abcdefghij"])

    def test_without_words_no_lines(self):
        style = ("style", "s", 0, 0, 2, "left")
        self.assertEqual(screen(style, para("@a"), dot(1), para("", "s"), para("@b @c"), dot(1)), ["-", "-"])
        self.assertEqual(screen(para()), [])

    def test_a_call_is_a_word(self):
        self.assertEqual(screen(para("{ }")), ["(1)", "-----", "(1)"])


class Items(unittest.TestCase):
    def test_depths_and_sorts(self):
        rows = [dot(1, "a"), dot(2, "b"), dot(3, "c"), num(1, "d"), num(2, "e"), num(3, "f")]
        self.assertEqual(screen(*rows), [
            "-    a", "  -    b", "    -    c", "1.   d", "  1.   e", "    1.   f"])

    def test_numbers_of_two_and_three_signs(self):
        lines = screen(*[num(1, "x")] * 80)
        self.assertEqual((lines[9], lines[79]), ("10.  x", "80.  x"))
        letters = screen(("counter", "item", "A", 0), *[num(1, "x")] * 27)
        self.assertEqual(letters[26], "AA.  x")

    def test_further_lines(self):
        self.assertEqual(screen(dot(1, "abcdefghijkl mnopqrs t")), ["-    abcdefghijkl", "     mnopqrs t"])
        self.assertEqual(screen(num(2, "abcdefghijkl mnopq r")), ["  1.   abcdefghijkl", "       mnopq r"])
        self.assertEqual(screen(num(3, "abcdefghijkl mn o p")), ["    1.   abcdefghijkl mn", "         o p"])

    def test_without_words(self):
        self.assertEqual(screen(dot(1), dot(3, "@a"), num(2)), ["-", "    -", "  1."])

    def test_before(self):
        self.assertEqual(screen(para("a"), dot(1), para("b")), ["a", "-", "", "b"])


class Figures(unittest.TestCase):
    def test_lines_and_caption(self):
        for lines in range(1, 7):
            made = screen(figure(lines, "a b"), width=24 + lines)
            self.assertEqual(made, [":" * (24 + lines)] * lines + ["Figure 1. a b"])

    def test_a_caption_of_several_lines(self):
        self.assertEqual(screen(figure(1, "abcdefghijkl mn opqrst")), [":" * 24, "Figure 1. abcdefghijkl", "mn opqrst"])

    def test_before(self):
        self.assertEqual(screen(dot(1), figure(1), dot(1)), ["-", "", ":" * 24, "Figure 1.", "-"])

    def test_number(self):
        self.assertEqual(screen(("counter", "figure", "a", 1), head(1), figure(1, "x"))[-1], "Figure 1.a. x")


class Notes(unittest.TestCase):
    def test_foot_notes(self):
        self.assertEqual(screen(para("a { abcdefghijkl mnopqrst u } b { c }")), [
            "a (1) b (2)", "-----", "(1) abcdefghijkl", "mnopqrst u", "(2) c"])

    def test_end_notes(self):
        self.assertEqual(screen(dot(1, "a [ abcdefghijkl mnopqrst u ] [ c ]")), [
            "-    a [1] [2]", "", "[1] abcdefghijkl", "mnopqrst u", "[2] c"])

    def test_before_of_the_first_end_note_alone(self):
        self.assertEqual(screen(("endnotes",), para("[ a ] [ b ]")), ["[1] a", "[2] b", "", "[1] [2]"])

    def test_the_row_of_end_notes_tells_where(self):
        rows = [para("x [ a ]"), ("endnotes",), para("y [ b ]")]
        self.assertEqual(screen(*rows), ["x [1]", "", "[1] a", "[2] b", "", "y [2]"])

    def test_a_row_of_end_notes_that_is_hidden(self):
        rows = [WHEN_PLAIN, ("endnotes",), DONE, para("x [ a ] { b }")]
        self.assertEqual(screen(*rows), ["x [1] (1)", "", "[1] a", "-----", "(1) b"])

    def test_notes_of_hidden_rows(self):
        rows = [WHEN_PLAIN, para("x [ a ] { b }"), DONE, para("y [ c ] { d }")]
        self.assertEqual(screen(*rows), ["y [2] (2)", "", "[2] c", "-----", "(2) d"])

    def test_a_row_of_end_notes_without_any(self):
        self.assertEqual(screen(("endnotes",), para("x")), ["x"])


class Tables(unittest.TestCase):
    def test_columns(self):
        cells = {1: 24, 2: 11, 3: 7, 4: 5}
        for columns, wide in cells.items():
            row = ["a" * min(wide, 12)] * columns
            lines = screen(*table(columns, "", row))
            self.assertEqual(lines, ["Table 1.", " ".join(one.ljust(wide) for one in row).rstrip()])
        self.assertEqual(screen(*table(3, "", ["a", "b", "c"]), width=40)[1], "a".ljust(13) + "b".ljust(13) + "c")

    def test_columns_that_leave_no_blank(self):
        full = {(24, 1): "abcdefghijkl mnopqrstuvw", (25, 2): LONG, (26, 3): "abcdefgh", (27, 4): "abcdef"}
        for (width, columns), text in full.items():
            lines = screen(*table(columns, "", [text] * columns), width=width)
            self.assertEqual(lines, ["Table 1.", " ".join([text] * columns)])

    def test_wide_cells(self):
        rows = table(4, "", [cell("abcdefghijk l", 1, 2), "x", "y"], ["x", cell("abcdefghijkl mnop q", 1, 3)])
        self.assertEqual(screen(*rows)[1:], ["abcdefghijk x     y", "l", "x     abcdefghijkl mnop", "      q"])

    def test_the_whole_width(self):
        for columns in range(1, 5):
            wide = (25 - columns) // columns * columns + columns - 1
            rows = table(columns, "", [cell("a " * 13, 1, columns)])
            count = (wide + 1) // 2
            self.assertEqual(screen(*rows)[1], " ".join("a" * min(count, 13)))

    def test_a_row_is_as_high_as_its_cells_and_one_at_least(self):
        rows = table(2, "", ["a", "b " * 12], [], [""], ["c"])
        self.assertEqual(screen(*rows), [
            "Table 1.", "a           b b b b b b", "            b b b b b b", "", "", "c"])

    def test_a_deep_cell_that_has_room(self):
        rows = table(4, "", [cell("a b c d e f g", 2), "x x x x"], ["y"])
        self.assertEqual(screen(*rows)[1:], ["a b c x x x", "d e f x", "g     y"])

    def test_a_deep_cell_makes_its_last_row_higher(self):
        rows = table(4, "", [cell("a " * 12, 2), "x"], ["y"], ["z"])
        self.assertEqual(screen(*rows)[1:], ["a a a x", "a a a y", "a a a", "a a a", "z"])

    def test_two_deep_cells_that_end_in_one_row(self):
        rows = table(4, "", ["x", cell("b " * 12, 3)], [cell("a " * 15, 2)], [])
        self.assertEqual(screen(*rows)[1:], ["x     b b b", "a a a b b b", "a a a b b b", "a a a b b b", "a a a", "a a a"])

    def test_a_deep_cell_behind_one_that_made_a_row_higher(self):
        rows = table(4, "", [cell("a " * 12, 2), cell("b " * 18, 3)], ["x"], ["y"])
        self.assertEqual(screen(*rows)[1:], [
            "a a a b b b", "a a a b b b x", "a a a b b b", "a a a b b b", "y     b b b", "      b b b"])

    def test_cells_of_later_rows_in_free_columns(self):
        rows = table(3, "", [cell("a", 3), "b", "c"], [cell("d", 1, 2)], ["e", "f"])
        self.assertEqual(screen(*rows)[1:], ["a       b       c", "        d", "        e       f"])

    def test_captions(self):
        rows = [("counter", "table", "A", 1), *table(1, "abcdefghijkl mn opqrst", ["x"])]
        self.assertEqual(screen(*rows), ["Table 0.A. abcdefghijkl", "mn opqrst", "x"])

    def test_before(self):
        self.assertEqual(screen(dot(1), *table(1, "", []), dot(1)), ["-", "", "Table 1.", "", "-"])

    def test_no_blanks_at_the_end(self):
        rows = table(4, "", ["a", "", "@m", ""], ["", "b", ""])
        self.assertEqual(screen(*rows)[1:], ["a", "      b"])


class Contents(unittest.TestCase):
    def test_entries(self):
        rows = [("contents", 3), head(1, "One"), head(2, "Two"), head(3, "Three")]
        self.assertEqual(screen(*rows, width=30), [
            "1 One....................    5", "  1.1 Two................    7", "    1.1.1 Three..........    9", "",
            "1 One", "", "1.1 Two", "", "1.1.1 Three"])

    def test_each_depth(self):
        heads = [head(1), head(2), head(3), head(1)]
        self.assertEqual(screen(("contents", 1), *heads)[:2], ["1..................    4", "2..................   10"])
        self.assertEqual(screen(("contents", 2), *heads)[:3], [
            "1..................    5", "  1.1..............    7", "2..................   11"])
        self.assertEqual(len([line for line in screen(("contents", 3), *heads) if ".." in line]), 4)

    def test_heads_ahead_of_it_too(self):
        self.assertEqual(screen(head(1, "a"), ("contents", 1), head(1, "b")), [
            "1 a", "", "1 a................    1", "2 b................    6", "", "2 b"])

    def test_several_lines(self):
        rows = [("contents", 3), head(1, "abcdefghijkl mn op"), head(3, "abcdefgh ijkl m")]
        self.assertEqual(screen(*rows)[:5], [
            "1 abcdefghijkl", "mn op..............    7", "    1.0.1", "    abcdefgh", "    ijkl m.........    9"])

    def test_room_and_dots(self):
        self.assertEqual(screen(("contents", 1), head(1, "abcdefghijkl m"))[0], "1 abcdefghijkl m...    3")
        self.assertEqual(screen(("contents", 1), head(1, "abcdefghijkl mn"))[:2], [
            "1 abcdefghijkl", "mn.................    4"])

    def test_a_long_word_is_cut(self):
        rows = [("counter", "head", "A", 1), ("contents", 3), head(3, "abcdefghijkl")]
        self.assertEqual(screen(*rows)[:2], ["    0.0.1", "    abcdefghijkl...    4"])

    def test_hidden_heads(self):
        rows = [("contents", 1), WHEN_PLAIN, head(1, "a"), DONE, head(1, "b")]
        self.assertEqual(screen(*rows), ["2 b................    3", "", "2 b"])

    def test_what_heads_show(self):
        rows = [("contents", 1), head(1, "@a ^b #c"), figure(1, "@c")]
        self.assertEqual(screen(*rows)[0], "1 b 1..............    3")

    def test_without_entries(self):
        self.assertEqual(screen(("contents", 1), head(2)), ["0.1"])
        self.assertEqual(screen(para("a"), ("contents", 1), para("b")), ["a", "", "b"])

    def test_places_on_pages(self):
        rows = [("contents", 1), head(1, "a"), ("break",), head(1, "b"), ("break",), head(1, "c")]
        made = on_pages(document(*rows), width=24, height=10)
        self.assertEqual(made.pages[0][1:4], (
            "1 a................    1", "2 b................    2", "3 c................    3"))

    def test_it_may_stand_twice(self):
        self.assertEqual(screen(("contents", 1), ("contents", 1), head(1)), [
            "1..................    5", "", "1..................    5", "", "1"])


class Figurelists(unittest.TestCase):
    def test_entries(self):
        rows = [("figures",), figure(2, "abcdefghijkl mn op"), figure(1)]
        self.assertEqual(screen(*rows), [
            "1. abcdefghijkl", "mn op..............    7", "2..................   11", "", ":" * 24, ":" * 24,
            "Figure 1. abcdefghijkl", "mn op", "", ":" * 24, "Figure 2."])

    def test_hidden_figures_and_none(self):
        self.assertEqual(screen(("figures",), WHEN_PLAIN, figure(1), DONE, figure(1, "x")), [
            "2. x...............    4", "", ":" * 24, "Figure 2. x"])
        self.assertEqual(screen(("figures",), head(1)), ["1"])

    def test_before(self):
        self.assertEqual(screen(dot(1), ("figures",), dot(1), figure(1))[:4], ["-", "", "1..................    7", "-"])


class Index(unittest.TestCase):
    def test_entries_rise(self):
        rows = [("index",), para("^b ^C ^a ^B ^c ^1 ^A. ^.")]
        self.assertEqual(screen(*rows), [
            ". 10", "1 10", "a 10", "A. 10", "B 10", "b 10", "C 10", "c 10", "", "b C a B c 1 A. ."])

    def test_places_rise_each_once(self):
        rows = [("index",), para("^a ^b ^a"), dot(1, "^a"), para("^a ^b")]
        self.assertEqual(screen(*rows), ["a 4, 5, 7", "b 4, 7", "", "a b a", "-    a", "", "a b"])

    def test_words_of_notes_captions_cells_and_heads(self):
        rows = [("index",), head(1, "^a"), figure(1, "^a"), *table(1, "^a", ["^a"]), para("x { ^a } [ ^a ]")]
        self.assertEqual(screen(*rows)[:2], ["a 3, 6, 8, 9, 13, 15", ""])

    def test_lists_show_no_words_for_it(self):
        self.assertEqual(screen(("contents", 1), head(1, "^a"), ("index",)), [
            "1 a................    3", "", "1 a", "", "a 3"])

    def test_further_lines(self):
        rows = [("index",)] + [dot(1, "^abcdefghijkl")] * 12
        self.assertEqual(screen(*rows)[:4], [
            "abcdefghijkl 4, 5, 6, 7,", "  8, 9, 10, 11, 12, 13,", "  14, 15", "-    abcdefghijkl"])

    def test_hidden_words(self):
        self.assertEqual(screen(("index",), WHEN_PLAIN, para("^a ^b"), DONE, para("^b")), ["b 3", "", "b"])

    def test_without_entries(self):
        self.assertEqual(screen(("index",), para("x")), ["x"])

    def test_hidden_itself(self):
        self.assertEqual(screen(WHEN_PLAIN, ("index",), DONE, para("^x")), ["x"])


if __name__ == "__main__":
    unittest.main()
