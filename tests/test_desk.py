"""Point 27: the desk, and the interface's lines."""

import unittest

from papertongue import desk as module
from papertongue.desk import Desk
from papertongue.documents import Document, document_of
from papertongue.drafttexts import read_draft
from papertongue.errors import Clash, NoChanges, NoInclude, NoLine, NoMark, NoNumber, NoSize, NoStyle, NoText, NoTexts
from papertongue.errors import Ring, RoomError, StandError, TongueError, TooMany, TooTall, Twice
from papertongue.numbers import number_of, numbers
from papertongue.printing import printed
from papertongue.reading import read_text

from helper import NUMBERS, OTHER_THINGS, refused

MAIN = ["style quote 2 1 1 left", "head 1 Paper @top", "para quote See #two and ~two { a note }", "include second"]
SECOND = ["item 1 num one", "item 1 num two @two", "when pages", "para - @lost x", "done"]
MADE = Document((("main", read_text("\n".join(MAIN))), ("second", read_text("\n".join(SECOND)))))
SIZES = [("plain",), ("screen", 24), ("screen", 40), ("pages", 24, 10), ("pages", 40, 24)]


def told_at(**texts):
    """A desk with these lines in its texts, `main` in hand."""
    desk = Desk()
    for name, lines in texts.items():
        say_all(desk, "text " + name, *["row " + line for line in lines])
    say_all(desk, "text main")
    return desk


def say_all(desk, *lines):
    for line in lines:
        told = desk.say(line)
        assert told == "ok", (line, told)


class DeskCase(unittest.TestCase):
    def says(self, desk, line, told):
        found = desk.say(line)
        self.assertIs(type(found), str)
        self.assertEqual(found, told)

    def refuses(self, desk, line, error, field, value):
        """See that the line is refused, and that nothing has changed."""
        before = self.whole(desk)
        told = refused(self, error, field, value, desk.say, line)
        self.assertEqual(self.whole(desk), before)
        return told

    def no_line(self, desk, *lines):
        for line in lines:
            self.assertIs(self.refuses(desk, line, NoLine, "line", line).line, line)

    def drafts(self, desk, rows, *changes):
        """See that the desk's draft has these rows, and these changes with their states."""
        self.says(desk, "draft", " / ".join([*rows, "=====", *changes]))

    def whole(self, desk):
        """All that a desk answers, and all that it keeps."""
        kept = [repr(sorted(vars(desk).items()))]
        for line in ("plain", "numbers", "draft", "clashes"):
            try:
                kept.append(desk.say(line))
            except (TongueError, StandError, RoomError) as error:
                kept.append((type(error).__name__, repr(vars(error))))
        return kept


class Texts(DeskCase):
    def test_main_without_lines_at_first(self):
        desk = Desk()
        self.says(desk, "plain", "")
        self.says(desk, "numbers", "none")
        self.says(desk, "clashes", "none")
        self.says(desk, "draft", "=====")
        self.says(desk, "gone", "ok")
        self.says(desk, "paper pages 24 10", "holds")
        self.says(desk, "row head 1", "ok")
        self.says(desk, "draft", "head 1 / =====")

    def test_the_text_in_hand(self):
        desk = Desk()
        say_all(desk, "text other", "row head 1 a")
        self.says(desk, "plain", "")
        say_all(desk, "text main", "row include other", "row include other")
        self.says(desk, "plain", "1 a / 2 a")
        say_all(desk, "text other", "gone")
        self.says(desk, "plain", "")
        say_all(desk, "row para - b")
        self.says(desk, "plain", "b / b")
        say_all(desk, "text main", "gone")
        self.says(desk, "plain", "b")

    def test_rows(self):
        desk = told_at(main=MAIN)
        self.drafts(desk, MAIN)
        desk = Desk()
        say_all(desk, "row .. of no matter", "row break", "row .. =====", "row index")
        self.drafts(desk, ["break", "index"])

    def test_lines_that_can_not_be_read(self):
        desk = Desk()
        say_all(desk, "row break", "row no", "row para", "row %!~ a")
        for line in ("plain", "screen 24", "pages 24 10", "numbers", "number a", "place a plain", "paper plain", "draft",
                     "clashes", "keep", "take 0", "leave 0", "change anna cut 0"):
            self.refuses(desk, line, NoText, "row", 1)
        say_all(desk, "gone", "gone", "gone")
        self.drafts(desk, ["break"])
        say_all(desk, "row when plain", "row .. a")
        self.refuses(desk, "plain", NoText, "row", 3)
        say_all(desk, "row done")
        self.says(desk, "plain", "")

    def test_lines_of_another_text(self):
        desk = told_at(main=["break"], other=["row"])
        for line in ("plain", "numbers", "number a", "place a plain", "paper plain", "screen 24"):
            self.refuses(desk, line, NoText, "row", 0)
        # A Draft is of `main` alone.
        self.drafts(desk, ["break"])
        self.says(desk, "clashes", "none")
        say_all(desk, "change anna cut 0", "take 0", "leave 0", "keep")

    def test_the_first_text_that_can_not_be_read(self):
        desk = told_at(main=["break", "break", "no"], other=["no"])
        self.refuses(desk, "plain", NoText, "row", 2)
        say_all(desk, "gone")
        self.refuses(desk, "plain", NoText, "row", 0)

    def test_gone(self):
        desk = told_at(main=["break", ".. a"])
        say_all(desk, "gone")
        self.drafts(desk, ["break"])
        say_all(desk, "gone", "gone", "gone")
        self.drafts(desk, [])
        say_all(desk, "row index")
        self.drafts(desk, ["index"])

    def test_more_than_six(self):
        desk = Desk()
        say_all(desk, *["text " + name for name in "abcde"])
        self.says(desk, "plain", "")
        say_all(desk, "text f")
        self.refuses(desk, "plain", NoTexts, "place", None)
        self.drafts(desk, [])

    def test_eighty_lines_and_one_more(self):
        desk = told_at(main=["para - a"] * 80)
        self.assertEqual(desk.say("plain").count(" / "), 79)
        say_all(desk, "row .. a")
        self.assertEqual(desk.say("plain").count(" / "), 79)
        say_all(desk, "row para - a")
        self.refuses(desk, "plain", NoText, "row", 81)


class Documents(DeskCase):
    def setUp(self):
        self.desk = told_at(main=MAIN, second=SECOND)

    def test_printings(self):
        for size in SIZES:
            line = " ".join(str(part) for part in size)
            told = str(printed(MADE, size)).replace("\n", " / ")
            self.says(self.desk, line, told)
            self.says(self.desk, "paper " + line, "holds")
        self.says(self.desk, "plain", "1 Paper / See 2 and 5 (1) / (1) a note / 1. one / 2. two")

    def test_empty_lines_and_pages(self):
        desk = told_at(main=["para - a", "break", "para - b"])
        self.says(desk, "screen 24", "a /  / b")
        self.says(desk, "pages 24 10", " " * 23 + "1 / a / " + "=" * 24 + " / " + " " * 23 + "2 / b")

    def test_places(self):
        for size in SIZES:
            line = " ".join(str(part) for part in size)
            made = printed(MADE, size)
            for name in ("top", "two", "lost"):
                place = made.stands(name)
                self.says(self.desk, f"place {name} {line}", "nowhere" if place is None else str(place))
        self.says(self.desk, "place lost plain", "nowhere")
        self.says(self.desk, "place two plain", "5")

    def test_numbers(self):
        self.says(self.desk, "numbers", " ".join(f"{row}:{number}" for row, _, _, number in numbers(MADE)))
        self.says(self.desk, "numbers", "1:1 2:1 3:1 4:2")
        for name in ("top", "two", "lost"):
            self.says(self.desk, "number " + name, number_of(MADE, name))
        self.says(told_at(main=["para - @a"]), "number a", "-")

    def test_no_marks(self):
        for name in ("gone", "Top", "@top", "abcdefghij", "2", "-"):
            self.refuses(self.desk, "number " + name, NoMark, "name", name)
            self.refuses(self.desk, f"place {name} plain", NoMark, "name", name)
            self.refuses(self.desk, f"place {name} pages 24 10", NoMark, "name", name)

    def test_sizes_that_are_none(self):
        for line, size in {
                "screen 23": ("screen", 23), "screen 41": ("screen", 41), "screen 0": ("screen", 0),
                "pages 24 9": ("pages", 24, 9), "pages 999999999 10": ("pages", 999999999, 10)}.items():
            self.refuses(self.desk, line, NoSize, "size", size)
            self.refuses(self.desk, "paper " + line, NoSize, "size", size)
            self.refuses(self.desk, "place top " + line, NoSize, "size", size)
            self.refuses(self.desk, "place gone " + line, NoSize, "size", size)

    def test_too_tall(self):
        desk = told_at(main=["break"] + ["head 1 @m"] + ["head 1"] * 12)
        for line in ("pages 24 10", "paper pages 24 10", "place m pages 24 10", "place gone pages 24 10"):
            self.refuses(desk, line, TooTall, "row", 1)
        self.says(desk, "place m screen 24", "1")

    def test_what_a_document_is_refused_with(self):
        for texts, error, field, value in (
                ({"main": ["include gone"]}, NoInclude, "name", "gone"),
                ({"main": ["include main"]}, Ring, "name", "main"),
                ({"main": ["include a"] * 3, "a": ["break"] * 80}, TooMany, "many", 240),
                ({"main": ["para lost a"]}, NoStyle, "name", "lost"),
                ({"main": ["para - @a @a"]}, Twice, "name", "a"),
                ({"main": ["para - #a"]}, NoMark, "name", "a"),
                ({"main": [], "a": ["style s 0 0 0 left"]}, NoTexts, "place", 1)):
            desk = told_at(**texts)
            for line in ("plain", "screen 24", "pages 24 10", "screen 1", "place b screen 1", "number b", "numbers",
                         "paper screen 1"):
                self.refuses(desk, line, error, field, value)
            self.drafts(desk, texts["main"])

    def test_no_text_ahead_of_what_a_document_is_refused_with(self):
        desk = told_at(main=["include gone"], other=["no"])
        self.refuses(desk, "screen 1", NoText, "row", 0)


class Changes(DeskCase):
    def test_each_one(self):
        rows = ["head 1 a b", "para - c d e", "break"]
        desk = told_at(main=rows)
        lines = ["put 0 1 x #y", "strike 1 0 2", "style 1 s", "add -1 para - n { o }", "add 2 figures", "cut 2",
                 "move 1 -1", "move 0 2"]
        for line in lines:
            self.says(desk, "change anna " + line, "ok")
        self.drafts(desk, rows, *["open anna " + line for line in lines])
        draft = read_draft(desk.say("draft").replace(" / ", "\n"))
        self.says(desk, "clashes", "none")
        draft.take_all(tuple(range(8)))
        for number in range(8):
            self.says(desk, f"take {number}", "ok")
        self.drafts(desk, rows, *["taken anna " + line for line in lines])
        self.says(desk, "draft", str(draft).replace("\n", " / "))
        self.says(desk, "keep", "ok")
        self.drafts(desk, str(draft.text()).split("\n"))

    def test_clashes(self):
        desk = told_at(main=["para - a b"])
        say_all(desk, "change a put 0 1 x", "change b cut 0", "change c strike 0 0 2", "change c style 0 s")
        self.says(desk, "clashes", "0-1 0-2 1-2 1-3")
        say_all(desk, "take 0", "leave 1")
        self.says(desk, "clashes", "0-1 0-2 1-2 1-3")
        error = self.refuses(desk, "take 1", Clash, "one", 0)
        self.assertEqual((error.other, error.row), (1, 0))
        error = self.refuses(desk, "take 2", Clash, "one", 0)
        self.assertEqual((error.other, error.row), (2, 0))
        say_all(desk, "take 3", "take 3", "leave 0", "take 2")
        self.drafts(desk, ["para - a b"], "left a put 0 1 x", "left b cut 0", "taken c strike 0 0 2", "taken c style 0 s")
        say_all(desk, "keep")
        self.drafts(desk, ["para s"])

    def test_take_and_leave(self):
        desk = told_at(main=["para - a"])
        say_all(desk, "change a put 0 0 x", "change a put 0 1 y")
        self.drafts(desk, ["para - a"], "open a put 0 0 x", "open a put 0 1 y")
        say_all(desk, "take 1")
        self.drafts(desk, ["para - a"], "open a put 0 0 x", "taken a put 0 1 y")
        say_all(desk, "take 0")
        self.drafts(desk, ["para - a"], "taken a put 0 0 x", "taken a put 0 1 y")
        say_all(desk, "leave 1", "leave 1")
        self.drafts(desk, ["para - a"], "taken a put 0 0 x", "left a put 0 1 y")
        for number in (2, 3, 24, 999999999):
            self.refuses(desk, f"take {number}", NoNumber, "place", number)
            self.refuses(desk, f"leave {number}", NoNumber, "place", number)
        self.refuses(Desk(), "take 0", NoNumber, "place", 0)
        # Printings are of `main` as it is.
        self.says(desk, "plain", "a")
        say_all(desk, "keep")
        self.drafts(desk, ["para - x a"])

    def test_keep(self):
        desk = told_at(main=[".. a", "para - a", "break"])
        say_all(desk, "change a put 0 0 x", "change b cut 1", "change c add 1 figures", "take 0", "leave 1", "keep")
        self.drafts(desk, ["para - x a", "break"])
        self.says(desk, "clashes", "none")
        self.refuses(desk, "take 0", NoNumber, "place", 0)
        say_all(desk, "change d cut 1", "take 0", "keep", "gone")
        self.drafts(desk, [])
        self.says(desk, "keep", "ok")

    def test_keep_without_rows(self):
        desk = told_at(main=["break", ".. b"])
        say_all(desk, "change a cut 0", "take 0")
        self.drafts(desk, ["break"], "taken a cut 0")
        say_all(desk, "keep")
        self.drafts(desk, [])
        self.says(desk, "plain", "")
        say_all(desk, "row no")
        self.refuses(desk, "draft", NoText, "row", 0)
        say_all(desk, "gone", "gone", "row break")
        self.drafts(desk, ["break"])

    def test_keep_with_the_text_in_hand(self):
        desk = told_at(main=["include other"], other=["para - a"])
        say_all(desk, "text other", "change a add 0 break", "take 0", "keep", "row para - b")
        self.says(desk, "plain", "a / b")
        self.drafts(desk, ["include other", "break"])

    def test_looked_at_by_itself_when_told(self):
        desk = told_at(main=["para - a", "table 1", "row", "cell 1 1 b", "close"])
        wrong = ["cut 5", "cut 1", "cut -1", "put 0 2 x", "put 0 -1 x", "put -1 0 x", "put 0 0", "put 0 0 {", "put 0 0 a!",
                 "put 3 0 [ ]", "strike 0 0 2", "strike 0 0 0", "strike -1 0 1", "style 0 A", "style 3 -", "style -1 -",
                 "add 1 break", "add 2 break", "add 0 index", "add 0 done", "add 0 table 1", "move 0 1", "move 0 5",
                 "move 1 -1", "move -1 0", "add 999999999 break"]
        for many in range(3):
            for line in wrong:
                self.refuses(desk, "change anna " + line, NoChanges, "place", many)
            for hand in ("Anna", "a1", "abcdefghi", "-"):
                self.refuses(desk, f"change {hand} cut 0", NoChanges, "place", many)
            say_all(desk, "change anna cut 0")
        say_all(desk, "change anna add 4 break", "change anna add -1 break", "change anna move 0 4", "change anna put 3 1 x")

    def test_by_itself_alone(self):
        desk = told_at(main=["para - a b"])
        # It clashes with the one ahead, and needs no style that there is.
        say_all(desk, "change a cut 0", "change b style 0 lost", "change c put 0 1 @x")

    def test_a_twenty_fifth(self):
        desk = told_at(main=["para - a"])
        say_all(desk, *["change a put 0 0 x"] * 24)
        for line in ("put 0 0 x", "cut 7", "cut 0"):
            self.refuses(desk, "change a " + line, NoChanges, "place", None)
        self.no_line(desk, "change a cut", "change a cut 00", "change a add 0 no")
        say_all(desk, "row no")
        self.refuses(desk, "change a cut 0", NoText, "row", 1)
        say_all(desk, "gone", "take 23")
        self.drafts(desk, ["para - a"], *["open a put 0 0 x"] * 23, "taken a put 0 0 x")
        say_all(desk, "keep", "change a put 0 0 y")
        self.drafts(desk, ["para - x a"], "open a put 0 0 y")

    def test_looked_at_again_where_a_draft_is_asked_for(self):
        desk = told_at(main=["para - a", "head 1 b", "para - c"])
        say_all(desk, "change a put 0 0 x", "change a cut 2", "change a style 0 s", "take 0", "take 1", "gone")
        for line in ("take 0", "leave 1", "keep", "clashes", "draft", "take 9", "leave 9"):
            self.refuses(desk, line, NoChanges, "place", 1)
        self.says(desk, "plain", "a / 1 b")
        self.refuses(desk, "change a cut 2", NoChanges, "place", 3)
        say_all(desk, "change a cut 1", "row break")
        self.drafts(desk, ["para - a", "head 1 b", "break"], "taken a put 0 0 x", "taken a cut 2", "open a style 0 s",
                    "open a cut 1")
        say_all(desk, "gone", "gone", "gone", "row head 1 z", "row break", "row break")
        self.refuses(desk, "draft", NoChanges, "place", 2)

    def test_states_stay_where_main_changes(self):
        desk = told_at(main=["para - a", "break"])
        say_all(desk, "change a put 0 0 x", "change a cut 1", "take 1", "leave 0", "gone", "row figures")
        self.drafts(desk, ["para - a", "figures"], "left a put 0 0 x", "taken a cut 1")
        say_all(desk, "row index")
        self.drafts(desk, ["para - a", "figures", "index"], "left a put 0 0 x", "taken a cut 1")
        say_all(desk, "keep")
        self.drafts(desk, ["para - a", "index"])

    def test_too_many(self):
        rows = ["para - " + " ".join(["a"] * 40)]
        desk = told_at(main=rows)
        say_all(desk, "change a put 0 0 x x", "take 0")
        self.refuses(desk, "keep", TooMany, "many", 42)
        # The Draft is written all the same, though there is no text by what is taken.
        self.drafts(desk, rows, "taken a put 0 0 x x")
        say_all(desk, "leave 0", "keep")
        self.drafts(desk, rows)
        rows = ["break"] * 80
        desk = told_at(main=rows)
        say_all(desk, "change a add 0 break", "take 0")
        self.refuses(desk, "keep", TooMany, "many", 81)
        self.drafts(desk, rows, "taken a add 0 break")

    def test_drafts_are_written_alike(self):
        """The Draft's own text, not that of its text by what is taken: words as the plain form has them."""
        desk = Desk()
        self.drafts(desk, [])
        say_all(desk, "row para - a b")
        self.drafts(desk, ["para - a b"])
        say_all(desk, "change ann put 0 2 x")
        self.drafts(desk, ["para - a b"], "open ann put 0 2 x")
        say_all(desk, "take 0")
        self.drafts(desk, ["para - a b"], "taken ann put 0 2 x")
        say_all(desk, "row .. passed over", "change bob add -1 head 1", "change bob move 0 -1", "leave 1")
        self.drafts(desk, ["para - a b"], "taken ann put 0 2 x", "left bob add -1 head 1", "open bob move 0 -1")
        draft = read_draft(desk.say("draft").replace(" / ", "\n"))
        self.assertEqual(draft.state(), ("taken", "left", "open"))

    def test_a_draft_changes_nothing(self):
        desk = told_at(main=["para - a", ".. b"])
        say_all(desk, "change a put 0 0 x", "change b cut 0", "take 0")
        before = self.whole(desk)
        for _ in range(3):
            self.drafts(desk, ["para - a"], "taken a put 0 0 x", "open b cut 0")
        self.assertEqual(self.whole(desk), before)
        self.no_line(desk, "draft 0", "draft main", "draft ", " draft")


class NoLines(DeskCase):
    def setUp(self):
        self.desk = told_at(main=["para - a b @m"])
        say_all(self.desk, "change a cut 0")

    def test_what_is_no_text(self):
        for thing in [*OTHER_THINGS, *NUMBERS, ("plain",), ["plain"], b"plain"]:
            told = refused(self, NoLine, "line", thing, self.desk.say, thing)
            self.assertIs(told.line, thing)

    def test_empty_words(self):
        self.no_line(self.desk, "", " ", "  ", " plain", "plain ", "row  a", "row a  b", "row a ", "screen  24", "text ",
                     "change a  cut 0", "change a cut 0 ", "gone ", " gone", "row ")

    def test_other_words(self):
        self.no_line(self.desk, "Plain", "print", "text.", "rows a", "paper", "ok", "open 0", "change", "=====", "..",
                     "plain,", "numbers,", "none", "exit", "head 1 a", "para - a")

    def test_numbers_of_words(self):
        self.no_line(
            self.desk, "text", "text a b", "row", "gone a", "take", "take 0 0", "leave", "leave 0 0", "keep a", "plain a",
            "plain 24", "screen", "screen 24 10", "pages", "pages 24", "pages 24 10 1", "place", "place m", "place plain",
            "place m plain 24", "place m screen", "place m pages 24", "number", "number a b", "numbers a", "clashes 0",
            "draft a", "paper plain a", "paper screen", "paper screen 24 10", "paper pages 24", "change", "change a",
            "change a cut", "change a cut 0 0", "change a put", "change a put 0", "change a strike 0", "change a strike 0 0",
            "change a strike 0 0 1 1", "change a style 0", "change a style 0 - -", "change a add", "change a add 0",
            "change a move 0", "change a move 0 0 0")

    def test_kinds_and_words_within(self):
        self.no_line(self.desk, "place m page 24", "place m Screen 24", "paper page 24 10", "paper 24", "change a cat 0",
                     "change a Cut 0", "place screen 24", "change cut 0")

    def test_names_of_texts(self):
        self.no_line(self.desk, "text A", "text a1", "text abcdefghi", "text -", "text .", "text main.")

    def test_numbers(self):
        wrong = ["00", "01", "+1", "-0", "-2", "1.", "1,", "a", "x1", "1x", "1e1", "1234567890", "9" * 10, "0" * 9, "9" * 6000]
        for number in wrong:
            self.no_line(
                self.desk, f"take {number}", f"leave {number}", f"screen {number}", f"pages {number} 10",
                f"pages 24 {number}", f"place m screen {number}", f"paper pages 24 {number}", f"change a cut {number}",
                f"change a put {number} 0 x", f"change a put 0 {number} x", f"change a strike {number} 0 1",
                f"change a strike 0 {number} 1", f"change a strike 0 0 {number}", f"change a style {number} -",
                f"change a add {number} break", f"change a move {number} 0", f"change a move 0 {number}",
                f"change a add 0 head {number}", f"change a add 0 contents {number}")

    def test_minus_one(self):
        self.no_line(self.desk, "take -1", "leave -1", "screen -1", "pages -1 10", "pages 24 -1", "place m screen -1",
                     "paper screen -1", "change a strike 0 -1 1", "change a strike 0 0 -1", "change a add 0 head -1")
        for line in ("cut -1", "put -1 0 x", "put 0 -1 x", "strike -1 0 1", "style -1 -", "move -1 0"):
            self.refuses(self.desk, "change a " + line, NoChanges, "place", 1)
        say_all(self.desk, "change a move 0 -1", "change a add -1 break")

    def test_rows_that_are_none(self):
        self.no_line(self.desk, "change a add 0 no", "change a add 0 head", "change a add 0 head 4", "change a add 0 head 1 ~b",
                     "change a add 0 para", "change a add 0 para - {", "change a add 0 para - a!", "change a add 0 break a",
                     "change a add 0 include A", "change a add 0 figure 7", "change a add 0 ..", "change a add 0 .. break",
                     "change a add -1 item 1 num }", "change a add 0 contents", "change a add 0 =====")

    def test_ahead_of_all_others(self):
        desk = told_at(main=["no"], other=["no"])
        self.no_line(desk, "change a add 0 no", "take 00", "place m", "screen a", "keep it", "numbers 0", "paper", "number")

    def test_no_line_of_a_hand_alone(self):
        self.refuses(self.desk, "change A cut 0", NoChanges, "place", 1)

    def test_by_name(self):
        self.assertEqual(self.desk.say(line="numbers"), "none")
        refused(self, NoLine, "line", None, self.desk.say, line=None)


class Apart(DeskCase):
    def test_desks_have_nothing_in_common(self):
        one, other = Desk(), Desk()
        say_all(one, "row para - a", "change a cut 0", "text b")
        self.drafts(other, [])
        self.says(other, "clashes", "none")
        say_all(other, "row break")
        self.says(one, "plain", "a")

    def test_interface(self):
        self.assertEqual(Desk.__module__, "papertongue.desk")
        self.assertIs(module.Desk, Desk)
        self.assertIn("say", vars(Desk))

    def test_a_main_of_a_document(self):
        lines = ["head 1 a", "para - b"]
        self.says(told_at(main=lines), "plain", str(printed(document_of(read_text("\n".join(lines))), ("plain",))).replace(
            "\n", " / "))


if __name__ == "__main__":
    unittest.main()
