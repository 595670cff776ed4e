"""Point 7 and the interface's row reading: the plain form read."""

import random
import unittest

from papertongue import reading
from papertongue.errors import NoText
from papertongue.reading import read_text
from papertongue.texts import Text

from helper import NUMBERS, OTHER_THINGS, cell, document, figure, head, num, para, refused, table
from randoms import random_rows
from test_rows import EACH

SIGNS = [chr(code) for code in range(ord(" "), ord("~") + 1)]


def reads(test, text, *rows):
    """See that these rows are read of the text."""
    made = read_text(text)
    test.assertIs(type(made), Text)
    test.assertEqual(made.rows, rows)
    return made


def fails(test, text, row):
    """See that the text is refused at this row."""
    refused(test, NoText, "row", row, read_text, text)


def is_read(text):
    """Whether a Text is read of the text."""
    try:
        read_text(text)
    except NoText:
        return False
    return True


class EachRow(unittest.TestCase):
    def test_written_and_read_again(self):
        for row, parts in EACH.items():
            told = [row] + [
                row[:at] + (part,) + row[at + 1:] for at, (right, _) in enumerate(parts, start=1) for part in right]
            for one in told:
                rows, before = self.standing(one)
                made = Text(rows)
                self.assertEqual(read_text(str(made)).rows[before], one)
                self.assertEqual(read_text(str(made)), made)

    def standing(self, row):
        """ROWS among which this one may stand, and how many of them are ahead of it."""
        if row[0] in ("row", "close"):
            return (("table", 1, ()), ("row",), ("close",)), 1 if row[0] == "row" else 2
        if row[0] == "cell":
            return (("table", 4, ()), ("row",), row) + (("row",),) * 3 + (("close",),), 2
        if row[0] == "table":
            return (row, ("row",), ("close",)), 0
        if row[0] in ("when", "done"):
            return (row if row[0] == "when" else ("when", "plain"), ("done",)), 1 if row[0] == "done" else 0
        return (row,), 0

    def test_parts_that_are_none(self):
        for row, parts in EACH.items():
            rows, before = self.standing(row)
            lines = str(Text(rows)).split("\n")
            for at, (_, wrong) in enumerate(parts, start=1):
                words = [str(part) for part in row if part != ()]
                # A number that is a text in a tuple is just the number in a line.
                for part in [one for one in wrong if isinstance(one, str) and one.split() == [one] and not one.isdigit()]:
                    if at < len(words) and "\n" not in part:
                        given = " ".join(words[:at] + [part] + words[at + 1:])
                        self.assertFalse(is_read("\n".join(lines[:before] + [given] + lines[before + 1:])), given)

    def test_all_of_them(self):
        made = reads(
            self,
            "style abc 1 2 0 right\ncounter head A 2\nhead 1 On @a\nhead 2\nwhen pages\npara abc a { b } ~a\npara -\n"
            "done\nitem 2 num c, &a\nfigure 3\ntable 2 T\nrow\ncell 1 2 x\nrow\ncell 1 1\nclose\ncontents 3\nfigures\n"
            "index\nendnotes\nbreak\ninclude ab",
            ("style", "abc", 1, 2, 0, "right"), ("counter", "head", "A", 2), head(1, "On @a"), head(2), ("when", "pages"),
            para("a { b } ~a", "abc"), para(), ("done",), num(2, "c, &a"), figure(3), ("table", 2, ("T",)), ("row",),
            cell("x", 1, 2), ("row",), cell(), ("close",), ("contents", 3), ("figures",), ("index",), ("endnotes",),
            ("break",), ("include", "ab"))
        self.assertEqual(len(made), 22)

    def test_numbers_that_are_texts_in_a_row(self):
        reads(self, "counter item 1 0", ("counter", "item", "1", 0))
        reads(self, "para - 1 0 007 1.5", para("1 0 007 1.5"))

    def test_words_left_over(self):
        for line in ("break now", "figures 1", "index a", "endnotes .", "contents 1 2", "include a b", "when pages now",
                     "style a 0 0 0 left right", "counter item 1 0 0"):
            fails(self, line, 0)
        for line in ("row 1", "close close"):
            fails(self, "table 1\nrow\n" + line, 2)
        fails(self, "when pages\ndone done", 1)

    def test_words_that_are_missing(self):
        for line in ("style", "style a 0 0 0", "counter", "counter item 1", "head", "para", "item", "item 1", "figure",
                     "table", "contents", "include", "when"):
            fails(self, line, 0)
        for line in ("cell", "cell 1"):
            fails(self, "table 1\nrow\n" + line, 2)

    def test_no_word_of_a_row(self):
        for line in ("Break", "breaks", "BREAK", "br eak", ".", "...", "..break", "=====", "text", "-", "1", "a", "{"):
            fails(self, line, 0)
            fails(self, "break\n\n" + line + "\nno", 2)


class Blanks(unittest.TestCase):
    def test_however_many(self):
        reads(self, "  para   -  a    b  ", para("a b"))
        reads(self, " break", ("break",))
        reads(self, "break ", ("break",))
        reads(self, "   style a  0 1   2 left   ", ("style", "a", 0, 1, 2, "left"))

    def test_a_thousand(self):
        reads(self, " " * 1000 + "head" + " " * 1000 + "1" + " " * 1000, head(1))

    def test_no_other_sign_is_a_blank(self):
        for sign in SIGNS[1:]:
            if sign not in "abcdefghijklmnopqrstuvwxyzABCDEFGHIJKLMNOPQRSTUVWXYZ0123456789.,":
                fails(self, f"para{sign}-", 0)


class PassedOver(unittest.TestCase):
    def test_lines_without_words(self):
        for text in ("", " ", "\n", "\n\n\n", "  \n \n"):
            reads(self, text)
        reads(self, "\n\nbreak\n \n\nindex\n", ("break",), ("index",))

    def test_lines_whose_first_word_is_two_dots(self):
        for text in ("..", " .. ", ".. a b", "..  break", ".. {", ".. =====\n.. ..", "   .. % ! ~"):
            reads(self, text)
        reads(self, ".. of\nbreak\n  .. done\nindex", ("break",), ("index",))
        reads(self, "para - .. a", para(".. a"))

    def test_they_count(self):
        fails(self, "\n\nno", 2)
        fails(self, ".. a\n\n.. b\nbreak\nno\nno", 4)
        fails(self, "\nwhen pages\n\n", 4)
        fails(self, "table 1\nrow\n.. b\n\ncell 2 1\n", 6)

    def test_within_a_table(self):
        reads(self, "table 1\n\nrow\n.. cell\ncell 1 1\n\nclose", *table(1, "", [""]))


class Numbers(unittest.TestCase):
    def test_no_noughts_ahead(self):
        for line in ("head 01", "head 001 a", "contents 01", "figure 06", "item 01 dot", "style a 00 0 0 left",
                     "style a 0 01 0 left", "counter foot 1 00"):
            fails(self, line, 0)
        fails(self, "table 04", 0)
        fails(self, "table 1\nrow\ncell 01 1", 2)

    def test_nought_itself(self):
        reads(self, "style a 0 0 0 left\ncounter foot a 0", ("style", "a", 0, 0, 0, "left"), ("counter", "foot", "a", 0))

    def test_no_signs_ahead_and_no_others(self):
        for number in ("+1", "-1", "-0", "1.", "1,", ".1", "1e0", "0x1", "1_1", "one", "a", "", "{", "1a", "a1"):
            fails(self, "head " + number, 0)
            fails(self, "contents " + number, 0)

    def test_beyond_bounds(self):
        for line in ("head 0", "head 4", "item 0 dot", "figure 7", "contents 4", "style a 7 0 0 left", "table 5",
                     "style a 0 5 0 left", "style a 0 0 3 left", "counter head 1 0", "counter item 1 1"):
            fails(self, line, 0)

    def test_of_any_length(self):
        for many in (9, 10, 11, 100, 5000, 20000):
            fails(self, "head " + "1" * many, 0)
            fails(self, "break\nfigure " + "9" * many, 1)


class LineEnds(unittest.TestCase):
    def test_one_line_more_than_ends(self):
        reads(self, "break\n", ("break",))
        reads(self, "\nbreak", ("break",))
        fails(self, "when pages", 1)
        fails(self, "when pages\n", 2)
        fails(self, "when pages\n\n\n", 4)

    def test_they_part_words_and_lines(self):
        reads(self, "para - a\nbreak", para("a"), ("break",))
        fails(self, "para -\na", 1)
        fails(self, "head\n1", 0)


class Standing(unittest.TestCase):
    def test_the_first_that_can_not_stand_there(self):
        fails(self, "break\nstyle a 0 0 0 left", 1)
        fails(self, "style a 0 0 0 left\n\nstyle a 0 0 0 left", 2)
        fails(self, "done", 0)
        fails(self, "row", 0)
        fails(self, "table 1\nrow\ncell 1 1\ncell 1 1", 3)
        fails(self, "table 1\nclose", 1)
        fails(self, "table 1\nrow\ncell 2 1\nclose\nno", 3)
        fails(self, "when pages\n" * 3 + "\nwhen pages", 4)

    def test_of_two_wrong_ones_the_first(self):
        fails(self, "break\ndone\nno", 1)
        fails(self, "break\nno\ndone", 1)

    def test_open_at_the_end(self):
        fails(self, "when pages\nbreak", 2)
        fails(self, "table 1", 1)
        fails(self, "table 1\nrow\n..", 3)
        fails(self, "when plain\nwhen pages\ndone\n", 4)

    def test_eighty_rows_and_one_more(self):
        reads(self, "break\n" * 80, *[("break",)] * 80)
        reads(self, "break\n\n.. a\n" * 80, *[("break",)] * 80)
        fails(self, "break\n" * 81, 80)
        fails(self, "\n" + "break\n" * 90, 81)
        fails(self, "break\n" * 80 + ".. a\n\nno", 82)
        fails(self, "break\n" * 79 + "when pages\n", 81)
        fails(self, "break\n" * 79 + "when pages\ndone", 80)


class NoTextThere(unittest.TestCase):
    def test_what_is_no_text(self):
        for thing in [*OTHER_THINGS, *NUMBERS, (), ("break",), ["break"], b"break", (("break",),)]:
            refused(self, NoText, "row", 0, read_text, thing)

    def test_by_name(self):
        self.assertEqual(read_text(text="break").rows, (("break",),))
        refused(self, NoText, "row", 1, read_text, text="break\nno")
        refused(self, NoText, "row", 0, read_text, text=None)

    def test_defined_there(self):
        self.assertEqual(reading.read_text.__module__, "papertongue.reading")


class ReadAgain(unittest.TestCase):
    def test_documents_by_chance(self):
        for number in range(200):
            made = Text(self.rows_of(number))
            self.assertEqual(read_text(str(made)), made)
            self.assertEqual(str(read_text(str(made))), str(made))

    def rows_of(self, number):
        """Some rows by chance, none where there would be too many."""
        rows = random_rows(number, rows=3 + number // 5, long=2 + number // 12)
        return rows if len(rows) <= 80 else ()

    def test_with_blanks_and_lines_put_in(self):
        for number in range(60):
            chance = random.Random(number)
            made = Text(self.rows_of(number))
            lines = []
            for line in str(made).split("\n"):
                while chance.random() < 0.3:
                    lines.append(chance.choice(["", "  ", "..", " .. a { b"]))
                words = [word + " " * chance.randint(1, 3) for word in line.split(" ")]
                lines.append(" " * chance.randint(0, 2) + "".join(words))
            self.assertEqual(read_text("\n".join(lines)), made)

    def test_signs_put_in_left_out_and_exchanged(self):
        texts = [str(Text(self.rows_of(number))) for number in (3, 8, 20, 31)]
        texts.append(str(document(head(1, "A @a"), *table(2, "b", ["c", "d"]), ("break",))))
        taken = 0
        for number, text in enumerate(texts):
            chance = random.Random(number)
            for sign in SIGNS + ["\n"]:
                for _ in range(6):
                    at = chance.randint(0, len(text))
                    for given in (text[:at] + sign + text[at:], text[:at] + sign + text[at + 1:], text[:at] + text[at + 1:]):
                        taken += self.look_at(given)
        self.assertGreater(taken, 500)

    def look_at(self, given):
        """What is written of what is read is read as the same; what is refused is so at a line that there is."""
        try:
            made = read_text(given)
        except NoText as error:
            self.assertIn(error.row, range(given.count("\n") + 2))
            return 0
        self.assertEqual(read_text(str(made)), made)
        for line in str(made).split("\n"):
            self.assertNotIn("  ", line)
        return 1


if __name__ == "__main__":
    unittest.main()
