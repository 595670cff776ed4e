"""Point 16: lumps, room on pages, figures that wait, breaks, why a page ends, tops."""

import unittest

from papertongue.errors import TooTall
from papertongue.printing import on_pages

from helper import cell, document, dot, figure, head, num, para, refused, table

BREAK = ("break",)
DONE = ("done",)
# A paragraph that wants no empty line ahead.
CLOSE = ("style", "c", 0, 0, 0, "left")
# Of the first a line holds no two, the second fills it.
LINE = "abcdefghijkl"
FULL = "abcdefghijkl mnopqrstuvw"
PARTS = {1: [1], 2: [2], 3: [3], 4: [2, 2], 5: [2, 1, 2], 6: [2, 1, 1, 2], 7: [2, 1, 1, 1, 2]}


def printed(*rows, width=24, height=10):
    """The Printing on pages; of each page 9 lines are left behind the top."""
    return on_pages(document(*rows), width=width, height=height)


def bodies(*rows, width=24, height=10):
    """The lines of each page but for its top."""
    return [list(page[1:]) for page in printed(*rows, width=width, height=height).pages]


def many(lines):
    """Words for so many lines."""
    return " ".join([LINE] * lines)


def fits(parts, room):
    """How many lines of these parts, one behind the other, have room."""
    found = 0
    for part in parts:
        if found + part > room:
            break
        found += part
    return found


class Lumps(unittest.TestCase):
    def test_paragraphs_of_one_to_seven_lines(self):
        for lines, parts in PARTS.items():
            for ahead in range(9):
                made = bodies(CLOSE, *[dot(1)] * ahead, para(many(lines), "c"))
                have = fits(parts, 9 - ahead)
                self.assertEqual(made[0], ["-"] * ahead + [LINE] * have, (lines, ahead))
                self.assertEqual(sum(len(page) for page in made), ahead + lines)

    def test_items_of_one_to_seven_lines(self):
        for lines, parts in PARTS.items():
            for ahead in range(9):
                made = bodies(*[dot(1)] * ahead, dot(1, many(lines)))
                self.assertEqual(len(made[0]), ahead + fits(parts, 9 - ahead), (lines, ahead))

    def test_end_notes_of_one_to_seven_lines(self):
        for lines, parts in PARTS.items():
            for ahead in range(7):
                note = ("para", "c", ("[",) + (LINE,) * lines + ("]",))
                made = bodies(CLOSE, *[dot(1)] * ahead, note)
                # The call's line, and the empty line that the note wants.
                have = fits(parts, 9 - ahead - 2)
                self.assertEqual(len(made[0]), ahead + 1 + (have + 1 if have else 0), (lines, ahead))

    def test_entries_of_contents(self):
        for lines, parts in PARTS.items():
            if lines < 5:
                # An entry's room is 16 signs, the number stands in the first line.
                text = " ".join(["abcdefghijkl"] * lines)
                made = bodies(*[dot(1)] * 6, ("contents", 1), BREAK, head(1, text))
                self.assertEqual(len(made[0]), 6 + (fits(parts, 2) + 1 if fits(parts, 2) else 0), lines)

    def test_further_entries_want_no_empty_line(self):
        made = bodies(*[dot(1)] * 6, ("contents", 1), BREAK, head(1, "a"), head(1, "b"), head(1, "c"))
        self.assertEqual([len(page) for page in made][:2], [9, 1])
        self.assertEqual(made[0][6:], ["", "1 a................    3", "2 b................    3"])
        self.assertEqual(made[1], ["3 c................    3"])

    def test_entries_of_the_index(self):
        rows = [("index",)]
        for _ in range(17):
            rows += [BREAK, para("^abcdefghijkl")]
        made = bodies(*[dot(1)] * 5, *rows)
        self.assertEqual(made[0], ["-"] * 5 + ["", "abcdefghijkl 3, 4, 5, 6,", "  7, 8, 9, 10, 11, 12,"])
        self.assertEqual(made[1], ["  13, 14, 15, 16, 17,", "  18, 19"])

    def test_a_figure_is_one(self):
        made = bodies(*[dot(1)] * 3, figure(6, many(2)))
        self.assertEqual(made[0], ["-"] * 3)
        self.assertEqual(len(made[1]), 8)

    def test_a_head_is_one_whatever_its_lines(self):
        for ahead in range(4):
            made = bodies(*[dot(1)] * ahead, head(1, many(5)))
            self.assertEqual(len(made[0]), ahead + 6 if ahead else 5)
        self.assertEqual(bodies(*[dot(1)] * 5, head(1, many(5)))[0], ["-"] * 5)


class Heads(unittest.TestCase):
    def test_one_hangs_together_with_the_next_lump(self):
        self.assertEqual(bodies(*[dot(1)] * 6, head(1, "a"), dot(1, "b")), [["-"] * 6 + ["", "1 a", "-    b"]])
        self.assertEqual(bodies(*[dot(1)] * 7, head(1, "a"), dot(1, "b")), [["-"] * 7, ["1 a", "-    b"]])
        self.assertEqual(bodies(*[dot(1)] * 5, head(1, "a"), para("b")), [["-"] * 5 + ["", "1 a", "", "b"]])
        self.assertEqual(bodies(*[dot(1)] * 6, head(1, "a"), para("b")), [["-"] * 6, ["1 a", "", "b"]])

    def test_with_the_first_part_of_what_is_behind_alone(self):
        made = bodies(*[dot(1)] * 4, head(1), para(many(4)))
        self.assertEqual(made, [["-"] * 4 + ["", "1", "", LINE, LINE], [LINE, LINE]])
        self.assertEqual(bodies(*[dot(1)] * 5, head(1), para(many(4)))[0], ["-"] * 5)

    def test_heads_behind_each_other(self):
        rows = [head(1), head(2), head(3), para("x")]
        self.assertEqual(bodies(dot(1), *rows), [["-", "", "1", "", "1.1", "", "1.1.1", "", "x"]])
        self.assertEqual(bodies(dot(1), dot(1), *rows), [["-", "-"], ["1", "", "1.1", "", "1.1.1", "", "x"]])

    def test_a_last_head_alone(self):
        self.assertEqual(bodies(*[dot(1)] * 7, head(1)), [["-"] * 7 + ["", "1"]])
        self.assertEqual(bodies(*[dot(1)] * 6, head(1), head(1)), [["-"] * 6, ["1", "", "2"]])

    def test_rows_without_lines_do_not_part(self):
        self.assertEqual(bodies(*[dot(1)] * 7, head(1), para(), ("figures",), dot(1)), [["-"] * 7, ["1", "-"]])
        rows = [head(2), para("@a"), ("figures",), ("when", "plain"), figure(1), BREAK, DONE, dot(1)]
        self.assertEqual(bodies(*[dot(1)] * 7, *rows), [["-"] * 7, ["0.1", "-"]])

    def test_a_figure_parts(self):
        made = bodies(*[dot(1)] * 7, head(1), figure(1), dot(1))
        self.assertEqual(made, [["-"] * 7 + ["", "1"], [":" * 24, "Figure 1.", "-"]])

    def test_a_break_parts(self):
        self.assertEqual(bodies(*[dot(1)] * 7, head(1), BREAK, dot(1)), [["-"] * 7 + ["", "1"], ["-"]])

    def test_with_a_table_and_its_first_row(self):
        rows = [head(1), *table(1, "", ["x"], ["y"])]
        self.assertEqual(bodies(*[dot(1)] * 4, *rows), [["-"] * 4 + ["", "1", "", "Table 1.", "x"], ["y"]])
        self.assertEqual(bodies(*[dot(1)] * 5, *rows)[0], ["-"] * 5)

    def test_with_entries_and_end_notes(self):
        self.assertEqual(bodies(*[dot(1)] * 6, head(1), ("contents", 1))[0], ["-"] * 6)
        rows = [dot(1, "[ x ]")] + [dot(1)] * 5
        self.assertEqual(bodies(*rows, head(1)), [["-    [1]"] + ["-"] * 5, ["1", "", "[1] x"]])

    def test_the_foot_notes_of_what_is_behind(self):
        rows = [head(1), para("x { y }")]
        self.assertEqual(bodies(*[dot(1)] * 3, *rows), [["-"] * 3 + ["", "1", "", "x (1)", "-----", "(1) y"]])
        self.assertEqual(bodies(*[dot(1)] * 4, *rows)[0], ["-"] * 4)


class Tables(unittest.TestCase):
    def test_rows_each_by_itself(self):
        rows = table(1, "", *[["a"]] * 4)
        self.assertEqual(bodies(*[dot(1)] * 5, *rows), [["-"] * 5 + ["", "Table 1.", "a", "a"], ["a", "a"]])

    def test_the_caption_and_the_first_row_together(self):
        rows = table(1, "", ["a"], ["a"])
        self.assertEqual(bodies(*[dot(1)] * 6, *rows)[0], ["-"] * 6 + ["", "Table 1.", "a"])
        self.assertEqual(bodies(*[dot(1)] * 7, *rows), [["-"] * 7, ["Table 1.", "a", "a"]])

    def test_what_is_behind_one(self):
        made = printed(*table(2, "", ["a", "b"], ["c"]), para("x"), figure(1), *table(1, "", ["d"]))
        self.assertEqual([page[1:] for page in made.pages], [
            ("Table 1.", "a           b", "c", "", "x", "", ":" * 24, "Figure 1."), ("Table 2.", "d")])
        self.assertEqual(made.ends, (("full", 9, 3, 1), ("end",)))

    def test_rows_that_have_a_cell_in_common(self):
        rows = table(2, "", ["a", "b"], [cell("c", 2), "d"], ["e"], ["f"])
        cut = [["-"] * 5 + ["", "Table 1.", "a           b"], ["c           d", "            e", "f"]]
        self.assertEqual(bodies(*[dot(1)] * 5, *rows), cut)
        whole = ["-"] * 4 + ["", "Table 1.", "a           b", "c           d", "            e"]
        self.assertEqual(bodies(*[dot(1)] * 4, *rows), [whole, ["f"]])

    def test_rows_that_hang_together_by_several_cells(self):
        rows = table(2, "", [cell("a", 2), "b"], [cell("c", 2)], ["d"], ["e"])
        made = bodies(*[dot(1)] * 5, *rows)
        self.assertEqual(made[0], ["-"] * 5)
        self.assertEqual(made[1], ["Table 1.", "a           b", "            c", "d", "e"])

    def test_rows_of_several_lines(self):
        rows = table(4, "", ["x"], ["a " * 9], ["y"])
        made = bodies(*[dot(1)] * 5, *rows)
        self.assertEqual(made, [["-"] * 5 + ["", "Table 1.", "x"], ["a a a"] * 3 + ["y"]])


class EmptyLines(unittest.TestCase):
    def test_left_out_where_first_on_a_page(self):
        for row, line in ((head(1), "1"), (para("x"), "x")):
            made = bodies(*[dot(1)] * 9, row)
            self.assertEqual(made, [["-"] * 9, [line]])
        self.assertEqual(bodies(*[dot(1)] * 9, *table(1, "", ["a"]))[1], ["Table 1.", "a"])
        self.assertEqual(bodies(*[dot(1)] * 9, figure(1))[1], [":" * 24, "Figure 1."])

    def test_wanted_behind_a_figure_that_is_first(self):
        made = bodies(*[dot(1)] * 8, figure(1), dot(1), para("x"))
        self.assertEqual(made, [["-"] * 9, [":" * 24, "Figure 1.", "", "x"]])

    def test_they_need_room(self):
        style = ("style", "s", 0, 0, 2, "left")
        self.assertEqual(bodies(style, *[dot(1)] * 6, para("x", "s")), [["-"] * 6 + ["", "", "x"]])
        self.assertEqual(bodies(style, *[dot(1)] * 7, para("x", "s")), [["-"] * 7, ["x"]])

    def test_pages_are_not_filled_up(self):
        self.assertEqual(len(printed(para("x"), height=24).pages[0]), 2)


class FootNotes(unittest.TestCase):
    def test_on_the_page_where_they_are_called(self):
        made = bodies(para("a { b } c { d }"), BREAK, dot(1, "e { f }"))
        self.assertEqual(made, [["a (1) c (2)", "-----", "(1) b", "(2) d"], ["-    e (3)", "-----", "(3) f"]])

    def test_all_their_lines_need_room(self):
        for lines in range(1, 8):
            note = " ".join(["x {"] + [LINE] * lines + ["}"])
            # The call's line, the line ahead of notes, the note's lines.
            self.assertEqual(len(bodies(*[dot(1)] * (7 - lines), dot(1, note))), 1)
            made = bodies(*[dot(1)] * (8 - lines), dot(1, note))
            self.assertEqual(made[0], ["-"] * (8 - lines))
            self.assertEqual(len(made[1]), lines + 2)

    def test_a_second_one_wants_no_line_ahead(self):
        rows = [dot(1, "{ a }")] + [dot(1)] * 4 + [dot(1, "{ b }")]
        self.assertEqual(len(bodies(*rows)), 1)
        self.assertEqual(bodies(*rows)[0][-3:], ["-----", "(1) a", "(2) b"])
        self.assertEqual([len(page) for page in bodies(dot(1), *rows)], [8, 3])

    def test_called_in_the_lump_of_the_first_sign_of_the_call(self):
        # The call begins the third line of six: its lump is by itself.
        text = f"{FULL} {FULL} {{ x }} {many(4)}"
        made = bodies(CLOSE, *[dot(1)] * 5, para(text, "c"))
        self.assertEqual(made[0], ["-"] * 5 + [FULL] * 2)
        self.assertEqual(made[1], ["(1) " + LINE] + [LINE] * 3 + ["-----", "(1) x"])

    def test_those_of_lumps_on_different_pages(self):
        text = f"{{ a }} {LINE} {FULL} {{ b }} {many(2)}"
        made = bodies(CLOSE, *[dot(1)] * 4, para(text, "c"))
        self.assertEqual(made, [
            ["-"] * 4 + ["(1) " + LINE, FULL, "-----", "(1) a"], ["(2) " + LINE, LINE, "-----", "(2) b"]])

    def test_a_call_that_is_cut(self):
        rules = [("counter", "foot", "1", 3)]
        style = ("style", "s", 6, 4, 0, "left")
        made = bodies(style, *rules, para("{ a }", "s"))
        self.assertEqual(made, [["          (0.0.0.1)", "-----", "(0.0.0.1) a"]])


class Figures(unittest.TestCase):
    def test_where_it_has_room(self):
        made = bodies(*[dot(1)] * 6, figure(1), dot(1))
        self.assertEqual(made, [["-"] * 6 + ["", ":" * 24, "Figure 1."], ["-"]])

    def test_it_waits_and_comes_first_on_the_next_page(self):
        made = bodies(*[dot(1)] * 7, figure(1), *[dot(1)] * 3)
        self.assertEqual(made, [["-"] * 9, [":" * 24, "Figure 1.", "-"]])

    def test_behind_one_that_waits_none_stands(self):
        made = bodies(*[dot(1)] * 6, figure(3, "a"), figure(1, "b"), *[dot(1)] * 4)
        self.assertEqual(made, [["-"] * 9, [":" * 24] * 3 + ["Figure 1. a", "", ":" * 24, "Figure 2. b", "-"]])

    def test_as_long_as_the_next_one_has_room(self):
        rows = [figure(4, "a"), figure(5, "b"), figure(1, "c")]
        made = bodies(*[dot(1)] * 9, *rows, *[dot(1)] * 5)
        self.assertEqual(made, [
            ["-"] * 9, [":" * 24] * 4 + ["Figure 1. a"] + ["-"] * 4,
            [":" * 24] * 5 + ["Figure 2. b", "", ":" * 24, "Figure 3. c"], ["-"]])

    def test_a_lump_that_has_no_room_behind_those_that_came(self):
        rows = [figure(6, "a"), figure(6, "b")]
        made = printed(*[dot(1)] * 9, *rows, para(many(3)))
        self.assertEqual([len(page) - 1 for page in made.pages], [9, 7, 7, 3])
        self.assertEqual(made.ends, (("full", 11, 4, 0), ("full", 11, 4, 2), ("full", 11, 4, 2), ("end",)))

    def test_lumps_stand_ahead_of_one_that_waits(self):
        made = bodies(*[dot(1)] * 5, figure(4), *[para("x")] * 2, dot(1))
        self.assertEqual(made, [["-"] * 5 + ["", "x", "", "x"], [":" * 24] * 4 + ["Figure 1.", "-"]])

    def test_behind_all_rows(self):
        made = printed(*[dot(1)] * 5, figure(6, "a"), figure(6, "b"), figure(1, "c"))
        self.assertEqual([len(page) - 1 for page in made.pages], [5, 7, 7, 2])
        self.assertEqual(made.ends, (("figures", 5), ("figures", 6), ("figures", 7), ("end",)))

    def test_end_notes_come_ahead_of_those_that_wait_behind_all_rows(self):
        made = printed(*[dot(1)] * 4, dot(1, "[ x ]"), figure(3))
        self.assertEqual([list(page[1:]) for page in made.pages], [
            ["-"] * 4 + ["-    [1]", "", "[1] x"], [":" * 24] * 3 + ["Figure 1."]])
        self.assertEqual(made.ends, (("figures", 5), ("end",)))

    def test_hidden_ones(self):
        rows = [dot(1)] * 8 + [("when", "plain"), figure(1), DONE, dot(1)]
        self.assertEqual(bodies(*rows), [["-"] * 9])


class Breaks(unittest.TestCase):
    def test_ends_a_page_that_has_lines(self):
        made = printed(para("a"), BREAK, para("b"))
        self.assertEqual([page[1:] for page in made.pages], [("a",), ("b",)])
        self.assertEqual(made.ends, (("break", 1), ("end",)))

    def test_nothing_comes_of_one_ahead_of_all_and_behind_all(self):
        made = printed(BREAK, para("a"), para("b"), BREAK, para(), BREAK)
        self.assertEqual([page[1:] for page in made.pages], [("a", "", "b")])
        self.assertEqual(made.ends, (("end",),))

    def test_several_are_as_one_and_the_first_is_told(self):
        made = printed(BREAK, para("a"), BREAK, para("@m"), BREAK, BREAK, para("b"))
        self.assertEqual([page[1:] for page in made.pages], [("a",), ("b",)])
        self.assertEqual(made.ends, (("break", 2), ("end",)))

    def test_several_ahead_of_a_figure_that_waits(self):
        made = printed(*[dot(1)] * 9, figure(1), BREAK, BREAK, dot(1, "x"))
        self.assertEqual([page[1:] for page in made.pages], [("-",) * 9, (":" * 24, "Figure 1.", "-    x")])
        self.assertEqual(made.ends, (("break", 10), ("end",)))

    def test_a_figure_behind_it(self):
        made = printed(para("a"), BREAK, figure(1))
        self.assertEqual([page[1:] for page in made.pages], [("a",), (":" * 24, "Figure 1.")])
        self.assertEqual(made.ends, (("break", 1), ("end",)))

    def test_a_figure_behind_it_comes_behind_those_that_wait(self):
        made = printed(*[dot(1)] * 7, figure(1, "a"), BREAK, figure(1, "b"))
        self.assertEqual([page[1:] for page in made.pages], [
            ("-",) * 7, (":" * 24, "Figure 1. a", "", ":" * 24, "Figure 2. b")])
        self.assertEqual(made.ends, (("break", 8), ("end",)))

    def test_behind_all_rows_where_figures_wait(self):
        made = printed(*[dot(1)] * 7, figure(6, "a"), BREAK, para(), BREAK)
        self.assertEqual(made.ends, (("break", 8), ("end",)))
        made = printed(*[dot(1)] * 7, figure(6, "a"), figure(6, "b"), BREAK)
        self.assertEqual(made.ends, (("break", 9), ("figures", 8), ("end",)))

    def test_end_notes_behind_it(self):
        made = printed(para("a [ b ]"), BREAK)
        self.assertEqual([page[1:] for page in made.pages], [("a [1]",), ("[1] b",)])
        self.assertEqual(made.ends, (("break", 1), ("end",)))

    def test_hidden_ones(self):
        made = printed(para("a"), ("when", "screen"), BREAK, DONE, para("b"))
        self.assertEqual(len(made), 1)

    def test_ahead_of_the_lump_that_has_no_room(self):
        made = printed(*[dot(1)] * 9, BREAK, dot(1))
        self.assertEqual(made.ends, (("break", 9), ("end",)))

    def test_one_behind_which_figures_fill_the_page(self):
        made = printed(*[dot(1)] * 9, figure(6), BREAK, para(many(3)))
        self.assertEqual(made.ends, (("break", 10), ("full", 11, 4, 2), ("end",)))


class Full(unittest.TestCase):
    def why(self, *rows, height=10):
        return printed(*rows, height=height).ends[0]

    def test_wanted_and_left(self):
        for left in range(3):
            self.assertEqual(self.why(*[dot(1)] * (9 - left), para(many(2))), ("full", 9 - left, 3, left))
        self.assertEqual(self.why(*[dot(1)] * 9, dot(1)), ("full", 9, 1, 0))
        self.assertEqual(self.why(*[dot(1)] * 23, dot(1), height=24), ("full", 23, 1, 0))

    def test_of_a_further_lump(self):
        self.assertEqual(self.why(dot(1), para(many(10))), ("full", 1, 1, 0))
        self.assertEqual(self.why(dot(1), para(many(8))), ("full", 1, 2, 1))

    def test_with_notes(self):
        # A line, the line ahead of notes, two of the note.
        self.assertEqual(self.why(*[dot(1)] * 6, dot(1, "{ " + many(2) + " }")), ("full", 6, 4, 3))
        rows = [dot(1, "{ x }")] + [dot(1)] * 5
        self.assertEqual(self.why(*rows, dot(1, "{ " + many(2) + " }")), ("full", 6, 3, 1))

    def test_of_heads_the_first(self):
        self.assertEqual(self.why(*[dot(1)] * 5, head(1), head(2), para(many(2))), ("full", 5, 7, 4))

    def test_of_table_rows_that_row(self):
        rows = table(1, "", *[["a"]] * 4)
        self.assertEqual(self.why(*[dot(1)] * 6, *rows), ("full", 9, 1, 0))
        self.assertEqual(self.why(*[dot(1)] * 7, *rows), ("full", 7, 3, 2))
        deep = table(2, "", ["a"], [cell("b", 2), "c"], ["d"])
        self.assertEqual(self.why(*[dot(1)] * 5, *deep), ("full", 8, 2, 1))

    def test_of_entries_the_list_and_of_end_notes_what_calls_them(self):
        self.assertEqual(self.why(*[dot(1)] * 8, ("contents", 1), head(1)), ("full", 8, 2, 1))
        self.assertEqual(self.why(*[dot(1)] * 8, ("figures",), figure(1)), ("full", 8, 2, 1))
        self.assertEqual(self.why(*[dot(1)] * 8, ("index",), dot(1, "^x")), ("full", 8, 2, 1))
        rows = [dot(1), dot(1, "[ x ]")] + [dot(1)] * 6
        self.assertEqual(self.why(*rows, ("endnotes",)), ("full", 1, 2, 1))
        self.assertEqual(self.why(*rows), ("full", 1, 2, 1))


class Tall(unittest.TestCase):
    def test_just_room_and_one_line_more(self):
        for high in (10, 17, 24):
            rows = [head(1, many(high - 1)), dot(1)]
            refused(self, TooTall, "row", 0, printed, *rows, height=high)
            self.assertEqual(len(printed(*[head(1, many(high - 2)), dot(1)], height=high).pages), 1)

    def test_heads_in_a_row(self):
        self.assertEqual(len(printed(*[head(1)] * 5)), 1)
        refused(self, TooTall, "row", 1, printed, para("x"), *[head(1)] * 6)
        refused(self, TooTall, "row", 0, printed, *[head(1)] * 5, dot(1))

    def test_figures(self):
        self.assertEqual(len(printed(figure(6, many(3)))), 1)
        refused(self, TooTall, "row", 1, printed, para("x"), figure(6, many(4)))

    def test_tables(self):
        refused(self, TooTall, "row", 0, printed, *table(4, "", [many(3)]))
        self.assertEqual(len(printed(*table(4, "", ["a " * 24]))), 1)
        refused(self, TooTall, "row", 0, printed, *table(4, "", ["a " * 25]))
        # Of further rows the row's own number.
        self.assertEqual(len(printed(*table(4, "", ["x"], ["a " * 27]))), 2)
        refused(self, TooTall, "row", 3, printed, *table(4, "", ["x"], ["a " * 28]))
        deep = table(4, "", ["x"], [cell("a " * 30, 3)], ["y"], ["z"])
        refused(self, TooTall, "row", 3, printed, *deep)

    def test_notes(self):
        self.assertEqual(len(printed(para("x { " + many(7) + " }"))), 1)
        refused(self, TooTall, "row", 0, printed, para("x { " + many(8) + " }"))
        refused(self, TooTall, "row", 0, printed, para(" ".join(["{ x }"] * 8)))

    def test_the_first_in_the_turn_of_rows(self):
        tall = table(4, "", ["a " * 40])
        high = [head(1, many(9)), head(1, many(9))]
        refused(self, TooTall, "row", 0, printed, figure(6, many(5)), *tall)
        refused(self, TooTall, "row", 1, printed, para("x"), *tall, figure(6, many(5)))
        refused(self, TooTall, "row", 1, printed, dot(1), *high, *tall)
        # A figure that would wait to the end stands ahead of what comes behind it.
        refused(self, TooTall, "row", 9, printed, *[dot(1)] * 9, figure(6, many(5)), *tall)

    def test_hidden_ones_and_other_kinds(self):
        self.assertEqual(len(printed(("when", "screen"), *[head(1)] * 9, DONE, para("x"))), 1)

    def test_in_a_later_round(self):
        # The note has 7 lines, 8 where the place takes two signs.
        note = f"{LINE} mnopqrs " + " ".join([FULL] * 5) + f" {LINE} mnopqrstu ~m"
        rows = [para(f"x {{ {note} }}")] + [BREAK, para("x")] * 7
        made = printed(*rows, BREAK, para("@m x"))
        self.assertEqual(made.pages[0][-1], LINE + " mnopqrstu 9")
        self.assertEqual(len(made.pages[0]), 10)
        refused(self, TooTall, "row", 0, printed, *rows, BREAK, para("x"), BREAK, para("@m x"))


class Tops(unittest.TestCase):
    def tops(self, *rows, width=24, height=10):
        return [page[0] for page in printed(*rows, width=width, height=height).pages]

    def test_without_a_head(self):
        self.assertEqual(self.tops(para("a"), BREAK, head(2, "x")), ["1".rjust(24), "2".rjust(24)])

    def test_of_a_head_on_this_page_or_ahead(self):
        rows = [para("a"), BREAK, head(1, "One a"), BREAK, para("b"), BREAK, para("c"), head(1, "Two")]
        self.assertEqual(self.tops(*rows), [
            "1".rjust(24), "1 One a".ljust(23) + "2", "1 One a".ljust(23) + "3", "2 Two".ljust(23) + "4"])

    def test_the_last_of_several_on_a_page(self):
        self.assertEqual(self.tops(head(1, "a"), head(1, "b"), head(2, "c"), dot(1)), ["2 b".ljust(23) + "1"])

    def test_cut_to_the_width_less_six(self):
        self.assertEqual(self.tops(head(1, "abcdefghijkl mnop")), ["1 abcdefghijkl mno     1"])
        self.assertEqual(self.tops(head(1, "abcdefghijkl mno")), ["1 abcdefghijkl mno     1"])
        # Behind the blank there is no room for the next word's sign.
        self.assertEqual(self.tops(head(1, "abcdefghi jkl mn o p"), width=25), ["1 abcdefghi jkl mn      1"])
        self.assertEqual(self.tops(head(1, many(3)), width=40), [("1 " + many(3))[:34].ljust(39) + "1"])

    def test_page_numbers_of_two_and_three_signs(self):
        tops = self.tops(head(1, "a"), *[para("x"), BREAK] * 38, para("y"))
        self.assertEqual(tops[9], "1 a".ljust(22) + "10")
        tops = self.tops(*[figure(6)] * 79, height=10)
        self.assertEqual(tops[9], "10".rjust(24))

    def test_hidden_heads(self):
        self.assertEqual(self.tops(("when", "plain"), head(1), DONE, para("x")), ["1".rjust(24)])

    def test_forms_and_references(self):
        rows = [("counter", "head", "A", 1), head(1, "see @h #f ^w"), figure(1, "@f")]
        self.assertEqual(self.tops(*rows), ["A see 1 w".ljust(23) + "1"])


if __name__ == "__main__":
    unittest.main()
