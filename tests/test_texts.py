"""Points 6 and 7 and the interface's row texts: where ROWS may stand, and what a Text tells."""

import itertools
import unittest

from helper import NUMBERS, OTHER_THINGS, deep_tuple, refused
from papertongue import texts
from papertongue.errors import NoRows
from papertongue.texts import Text

PARA = ("para", "-", ("a",))
BREAK = ("break",)
TABLE = ("table", 2, ())
ROW = ("row",)
CLOSE = ("close",)
DONE = ("done",)
WHEN = ("when", "pages")
STYLE = ("style", "a", 0, 0, 0, "left")
COUNTER = ("counter", "table", "1", 0)


def cell(down, across, *tokens):
    """A `cell` row."""
    return ("cell", down, across, tokens)


def style(name, *parts):
    """A `style` row of this NAME."""
    return ("style", name, *(parts or (0, 0, 0, "left")))


class TextCase(unittest.TestCase):
    def stands(self, *rows):
        """See that these rows are a Text's."""
        made = Text(rows)
        self.assertIs(made.rows, rows)
        return made

    def fails(self, place, *rows):
        """See that these rows are refused at this place."""
        refused(self, NoRows, "place", place, Text, rows)


class HowMany(TextCase):
    def test_none(self):
        self.assertEqual(Text().rows, ())
        self.assertEqual(Text(()).rows, ())

    def test_eighty_have_room(self):
        for many in (1, 79, 80):
            self.stands(*[PARA] * many)
        for many in (81, 82, 300):
            self.fails(None, *[PARA] * many)

    def test_too_many_goes_ahead_of_what_is_none(self):
        self.fails(None, "no row", *[PARA] * 80)
        self.fails(None, *[PARA] * 80, WHEN)
        self.fails(0, "no row", *[PARA] * 79)
        self.fails(80, *[PARA] * 79, WHEN)

    def test_no_tuple(self):
        for thing in [*OTHER_THINGS, *NUMBERS, "", "break", "para - a"]:
            refused(self, NoRows, "place", None, Text, thing)

    def test_by_name(self):
        self.assertEqual(Text(rows=(PARA,)).rows, (PARA,))
        refused(self, NoRows, "place", None, Text, rows=None)

    def test_a_list_stays_as_it_was(self):
        given = [PARA]
        refused(self, NoRows, "place", None, Text, given)
        self.assertEqual(given, [PARA])

    def test_the_first_that_is_none(self):
        self.fails(1, PARA, ("para", "-"), PARA, ())
        self.fails(0, ROW[0])
        self.fails(2, TABLE, ROW, ("cell", 1, 1, ("{", "}")), CLOSE)


class Rules(TextCase):
    def test_ahead_of_all_others(self):
        self.stands(STYLE, COUNTER, style("b"), ("counter", "head", "1", 1), PARA)
        self.stands(STYLE)
        self.stands(COUNTER)
        for other in (PARA, BREAK, ("figures",), ("include", "a"), ("contents", 1)):
            for rule in (STYLE, COUNTER):
                self.fails(1, other, rule)
                self.fails(2, style("x"), other, rule)
        for rule in (STYLE, COUNTER):
            self.fails(1, WHEN, rule, DONE)
            self.fails(2, WHEN, DONE, rule)
            self.fails(1, TABLE, rule, ROW, CLOSE)
            self.fails(2, TABLE, ROW, rule, CLOSE)
            self.fails(3, TABLE, ROW, CLOSE, rule)

    def test_names_of_styles_unlike(self):
        self.stands(style("a"), style("b"), style("aa"))
        self.fails(1, style("a"), style("a"))
        self.fails(2, style("a"), style("b"), style("a", 6, 4, 2, "right"))

    def test_of_each_kind_one_counter(self):
        for kind in ("table", "figure", "foot", "end", "item"):
            self.fails(1, ("counter", kind, "1", 0), ("counter", kind, "1", 0))
            self.fails(1, ("counter", kind, "1", 0), ("counter", kind, "A", 0))
        for kind in ("table", "figure", "foot", "end"):
            self.fails(1, ("counter", kind, "1", 1), ("counter", kind, "1", 2))
        self.stands(*[("counter", kind, "1", 0) for kind in ("table", "figure", "foot", "end", "item")])

    def test_of_head_one_for_each_within(self):
        heads = [("counter", "head", "a", within) for within in (3, 1, 2)]
        self.stands(*heads)
        self.stands(*heads, COUNTER)
        for within in (1, 2, 3):
            self.fails(3, *heads, ("counter", "head", "1", within))
            self.fails(1, ("counter", "head", "A", within), ("counter", "head", "1", within))

    def test_a_style_may_be_called_as_a_counter(self):
        self.stands(style("table"), COUNTER, style("head"), ("counter", "head", "1", 1), style("counter"))


class Whens(TextCase):
    def test_ended(self):
        self.stands(WHEN, DONE)
        self.stands(WHEN, PARA, DONE, PARA)
        self.stands(WHEN, ("when", "screen"), ("when", "plain"), PARA, DONE, DONE, DONE)
        self.stands(*[WHEN, DONE] * 40)

    def test_three_open_at_once(self):
        self.stands(*[WHEN] * 3, *[DONE] * 3)
        self.stands(*[WHEN] * 3, DONE, WHEN, DONE, *[DONE] * 2)
        self.fails(3, *[WHEN] * 4, *[DONE] * 4)
        self.fails(4, WHEN, PARA, WHEN, WHEN, ("when", "plain"), PARA)

    def test_a_done_too_many(self):
        self.fails(0, DONE)
        self.fails(2, WHEN, DONE, DONE)
        self.fails(1, PARA, DONE, WHEN)

    def test_open_at_the_end(self):
        self.fails(1, WHEN)
        self.fails(4, PARA, WHEN, PARA, PARA)
        self.fails(3, WHEN, WHEN, DONE)

    def test_all_short_ones(self):
        for many in range(0, 8):
            for rows in itertools.product((WHEN, DONE, PARA), repeat=many):
                place = self.expected(rows)
                if place is None:
                    self.stands(*rows)
                else:
                    self.fails(place, *rows)

    def expected(self, rows):
        """The place where these are refused, None where they aren't."""
        for at in range(len(rows)):
            level = rows[:at + 1].count(WHEN) - rows[:at + 1].count(DONE)
            if level not in (0, 1, 2, 3):
                return at
        return None if rows.count(WHEN) == rows.count(DONE) else len(rows)


class Tables(TextCase):
    def test_one_to_eight_rows(self):
        for many in range(1, 9):
            self.stands(TABLE, *[ROW] * many, CLOSE)
            self.stands(TABLE, *[ROW, cell(1, 1)] * many, CLOSE)
        self.fails(1, TABLE, CLOSE)
        self.fails(9, TABLE, *[ROW] * 9, CLOSE)
        self.fails(17, TABLE, *[ROW, cell(1, 1)] * 9, CLOSE)

    def test_a_cell_ahead_of_the_first_row(self):
        self.fails(1, TABLE, cell(1, 1), ROW, CLOSE)

    def test_nowhere_else(self):
        for row in (ROW, cell(1, 1), CLOSE):
            self.fails(0, row)
            self.fails(1, PARA, row)
            self.fails(1, WHEN, row, DONE)
            self.fails(3, TABLE, ROW, CLOSE, row)

    def test_nothing_else_between(self):
        others = (
            STYLE, COUNTER, ("head", 1, ()), PARA, ("item", 1, "dot", ()), ("figure", 1, ()), TABLE, ("contents", 1),
            ("figures",), ("index",), ("endnotes",), BREAK, ("include", "a"), WHEN, DONE,
        )
        for other in others:
            self.fails(1, TABLE, other, ROW, CLOSE)
            self.fails(2, TABLE, ROW, other, CLOSE)
            self.fails(3, TABLE, ROW, cell(1, 1), other, CLOSE)
        self.fails(3, WHEN, TABLE, ROW, DONE, CLOSE)

    def test_open_at_the_end(self):
        self.fails(1, TABLE)
        self.fails(2, TABLE, ROW)
        self.fails(4, PARA, TABLE, ROW, cell(1, 1))
        self.fails(4, TABLE, ROW, cell(2, 1), ROW)
        self.fails(3, WHEN, TABLE, ROW)

    def test_side_by_side(self):
        self.stands(TABLE, ROW, cell(1, 1), cell(1, 1), CLOSE)
        self.fails(4, TABLE, ROW, cell(1, 1), cell(1, 1), cell(1, 1), CLOSE)
        self.stands(("table", 4, ()), ROW, *[cell(1, 1)] * 4, CLOSE)
        self.fails(6, ("table", 4, ()), ROW, *[cell(1, 1)] * 5, CLOSE)
        self.stands(("table", 1, ()), ROW, cell(1, 1), ROW, cell(1, 1), CLOSE)

    def test_across(self):
        self.stands(TABLE, ROW, cell(1, 2), CLOSE)
        self.fails(2, TABLE, ROW, cell(1, 3), CLOSE)
        self.fails(3, TABLE, ROW, cell(1, 1), cell(1, 2), CLOSE)
        self.fails(2, ("table", 1, ()), ROW, cell(1, 2), CLOSE)
        self.stands(("table", 4, ()), ROW, cell(1, 3), cell(1, 1), ROW, cell(1, 4), CLOSE)

    def test_down(self):
        self.stands(TABLE, ROW, cell(2, 1), cell(1, 1), ROW, cell(1, 1), CLOSE)
        self.stands(TABLE, ROW, cell(2, 2), ROW, ROW, cell(1, 2), CLOSE)
        self.stands(("table", 1, ()), ROW, cell(4, 1), ROW, ROW, ROW, ROW, cell(1, 1), CLOSE)

    def test_no_free_column(self):
        self.fails(4, TABLE, ROW, cell(2, 2), ROW, cell(1, 1), CLOSE)
        self.fails(5, TABLE, ROW, cell(2, 1), ROW, cell(1, 1), cell(1, 1), CLOSE)
        self.fails(6, ("table", 1, ()), ROW, cell(4, 1), ROW, ROW, ROW, cell(1, 1), CLOSE)

    def test_a_cell_from_above_in_the_way(self):
        three = ("table", 3, ())
        self.fails(5, three, ROW, cell(1, 1), cell(2, 1), ROW, cell(1, 2), CLOSE)
        self.stands(three, ROW, cell(1, 1), cell(2, 1), ROW, cell(1, 1), cell(1, 1), CLOSE)
        self.stands(three, ROW, cell(2, 1), ROW, cell(1, 2), CLOSE)

    def test_beyond_the_last_row(self):
        self.fails(3, TABLE, ROW, cell(2, 1), CLOSE)
        self.stands(TABLE, ROW, cell(2, 1), ROW, CLOSE)
        self.fails(4, TABLE, ROW, cell(3, 1), ROW, CLOSE)
        self.fails(7, TABLE, ROW, cell(1, 1), ROW, cell(1, 1), cell(4, 1), ROW, CLOSE)
        self.fails(10, TABLE, *[ROW] * 8, cell(2, 1), CLOSE)
        self.stands(TABLE, *[ROW] * 5, cell(4, 2), *[ROW] * 3, CLOSE)
        self.fails(10, TABLE, *[ROW] * 6, cell(4, 2), *[ROW] * 2, CLOSE)
        self.fails(10, TABLE, *[ROW] * 8, cell(4, 1), ROW, CLOSE)

    def test_one_behind_another(self):
        self.stands(TABLE, ROW, cell(1, 2), CLOSE, ("table", 1, ()), ROW, cell(1, 1), CLOSE)
        self.fails(6, TABLE, ROW, cell(1, 2), CLOSE, ("table", 1, ()), ROW, cell(1, 2), CLOSE)

    def test_all_short_ones(self):
        cells = [cell(down, across) for down in (1, 2, 3) for across in (1, 2, 3)]
        for columns in (1, 2, 3):
            for many in range(0, 5):
                for between in itertools.product([ROW] + cells, repeat=many):
                    rows = (("table", columns, ()), *between, CLOSE)
                    place = self.expected(columns, between)
                    if place is None:
                        self.stands(*rows)
                    else:
                        self.fails(place, *rows)

    def expected(self, columns, between):
        """The place where a table is refused, by the squares that its cells take; None where it isn't."""
        taken = {}
        many = 0
        for at, row in enumerate(between, start=1):
            if row == ROW:
                many += 1
                continue
            free = [column for column in range(columns) if (many, column) not in taken]
            if many == 0 or not free:
                return at
            for line in range(many, many + row[1]):
                for column in range(free[0], free[0] + row[2]):
                    if column >= columns or (line, column) in taken:
                        return at
                    taken[line, column] = at
        if many == 0 or any(line > many for line, _ in taken):
            return len(between) + 1
        return None


class Tree(TextCase):
    def test_rows_as_they_are(self):
        rows = (STYLE, COUNTER, ("head", 1, ("A",)), PARA, ("figure", 1, ()), ("include", "a"), BREAK)
        self.assertEqual(self.stands(*rows).tree(), rows)
        self.assertEqual(Text().tree(), ())

    def test_whens(self):
        self.assertEqual(self.stands(WHEN, DONE).tree(), (("when", "pages", ()),))
        self.assertEqual(
            self.stands(BREAK, WHEN, PARA, BREAK, DONE, PARA).tree(),
            (BREAK, ("when", "pages", (PARA, BREAK)), PARA))

    def test_whens_in_whens(self):
        rows = (WHEN, PARA, ("when", "screen"), BREAK, ("when", "plain"), PARA, DONE, DONE, BREAK, DONE, WHEN, DONE)
        inner = ("when", "screen", (BREAK, ("when", "plain", (PARA,))))
        self.assertEqual(
            self.stands(*rows).tree(), (("when", "pages", (PARA, inner, BREAK)), ("when", "pages", ())))

    def test_a_table(self):
        rows = (("table", 2, ("T", "u")), ROW, cell(1, 1, "a", "b"), cell(1, 1), CLOSE)
        self.assertEqual(
            self.stands(*rows).tree(),
            (("table", 2, ("T", "u"), (((0, 1, 1, ("a", "b")), (1, 1, 1, ())),)),))

    def test_the_columns_of_a_grid(self):
        rows = (
            ("table", 4, ()), ROW, cell(1, 1, "a"), cell(3, 2, "b"), cell(1, 1, "c"), ROW, cell(2, 1, "d"),
            cell(1, 1, "e"), ROW, cell(1, 1, "f"), ROW, ROW, cell(1, 4, "g"), CLOSE,
        )
        grid = (
            ((0, 1, 1, ("a",)), (1, 3, 2, ("b",)), (3, 1, 1, ("c",))),
            ((0, 2, 1, ("d",)), (3, 1, 1, ("e",))),
            ((3, 1, 1, ("f",)),),
            (),
            ((0, 1, 4, ("g",)),),
        )
        self.assertEqual(self.stands(*rows).tree(), (("table", 4, (), grid),))

    def test_a_table_in_a_when(self):
        rows = (PARA, WHEN, BREAK, TABLE, ROW, cell(1, 2, "a"), CLOSE, PARA, DONE, TABLE, ROW, CLOSE)
        table = ("table", 2, (), (((0, 1, 2, ("a",)),),))
        self.assertEqual(
            self.stands(*rows).tree(),
            (PARA, ("when", "pages", (BREAK, table, PARA)), ("table", 2, (), ((),))))

    def test_all_is_tuples(self):
        made = Text((WHEN, TABLE, ROW, cell(1, 1, "a"), ROW, CLOSE, DONE))
        self.only_tuples(made.tree())

    def only_tuples(self, thing):
        if isinstance(thing, (str, int)):
            return
        self.assertIs(type(thing), tuple)
        for part in thing:
            self.only_tuples(part)

    def test_the_text_stays_as_it_was(self):
        rows = (WHEN, TABLE, ROW, cell(1, 1, "a"), CLOSE, DONE)
        made = Text(rows)
        self.assertEqual(made.tree(), made.tree())
        self.assertIs(made.rows, rows)
        self.assertEqual(rows, (WHEN, TABLE, ROW, cell(1, 1, "a"), CLOSE, DONE))


class Alike(TextCase):
    def test_where_rows_are(self):
        for one, other in (((), ()), ((PARA,), (("para", "-", ("a",)),)), ((WHEN, DONE), (WHEN, DONE))):
            self.assertIs(Text(one) == Text(other), True)
            self.assertIs(Text(one) != Text(other), False)

    def test_where_rows_are_not(self):
        unlike = [(), (PARA,), (PARA, PARA), (BREAK,), (("para", "-", ()),), (("para", "a", ("a",)),), (PARA, BREAK)]
        for one, other in itertools.permutations(unlike, 2):
            self.assertIs(Text(one) == Text(other), False)
            self.assertIs(Text(one) != Text(other), True)

    def test_things_of_other_kinds(self):
        for made in (Text(), Text((PARA,))):
            for thing in [*OTHER_THINGS, *NUMBERS, (), (PARA,), "", "para - a", "Text(0)", deep_tuple(3)]:
                if isinstance(thing, Text):
                    continue
                self.assertIs(made == thing, False)
                self.assertIs(made != thing, True)
            self.assertIs(made.rows == made, False)


class Told(TextCase):
    def test_len_and_truth(self):
        for many in range(0, 81, 8):
            made = Text((PARA,) * many)
            self.assertEqual(len(made), many)
            self.assertIs(bool(made), many > 0)

    def test_len_counts_all_rows(self):
        self.assertEqual(len(Text((STYLE, WHEN, TABLE, ROW, cell(1, 1), CLOSE, DONE))), 7)

    def test_lines(self):
        rows = (
            style("abc", 1, 2, 0, "right"), ("counter", "head", "A", 2), ("head", 1, ("On", "@a")), ("head", 2, ()),
            WHEN, ("para", "abc", ("a", "{", "b", "}", "~a")), ("para", "-", ()), DONE,
            ("item", 2, "num", ("c,", "&a")), ("figure", 3, ()), ("table", 2, ("T",)), ROW, cell(1, 2, "x"),
            ROW, cell(1, 1), CLOSE, ("contents", 3), ("figures",), ("index",), ("endnotes",), BREAK, ("include", "ab"),
        )
        lines = [
            "style abc 1 2 0 right", "counter head A 2", "head 1 On @a", "head 2", "when pages",
            "para abc a { b } ~a", "para -", "done", "item 2 num c, &a", "figure 3", "table 2 T", "row", "cell 1 2 x",
            "row", "cell 1 1", "close", "contents 3", "figures", "index", "endnotes", "break", "include ab",
        ]
        self.assertEqual(str(Text(rows)), "\n".join(lines))

    def test_few_lines(self):
        self.assertEqual(str(Text()), "")
        self.assertEqual(str(Text((BREAK,))), "break")
        self.assertEqual(str(Text((PARA, ("para", "-", ())))), "para - a\npara -")

    def test_repr(self):
        for many in (0, 1, 9, 80):
            self.assertEqual(repr(Text((PARA,) * many)), f"Text({many})")

    def test_it_stays_as_it_was(self):
        rows = (PARA, BREAK)
        made = Text(rows)
        str(made), repr(made), len(made), made == Text(), made.tree()
        self.assertIs(made.rows, rows)
        with self.assertRaises(NoRows):
            Text((PARA, ROW))
        self.assertEqual(made, Text((PARA, BREAK)))


class Interface(unittest.TestCase):
    def test_defined_there(self):
        self.assertEqual(Text.__module__, "papertongue.texts")
        self.assertIs(texts.Text, Text)
        self.assertIn("tree", vars(Text))


if __name__ == "__main__":
    unittest.main()
