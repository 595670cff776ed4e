"""Point 24: Drafts as texts, written and read."""

import random
import unittest

from papertongue import drafttexts
from papertongue.drafts import Draft
from papertongue.drafttexts import read_draft
from papertongue.errors import NoText
from papertongue.texts import Text

import changing
from helper import NUMBERS, OTHER_THINGS, figure, head, num, para, refused, table, words

ELDER = "head 1 a @b\npara - c { d } e\nbreak"
ROWS = (head(1, "a @b"), para("c { d } e"), ("break",))
SIGNS = [chr(code) for code in range(ord(" "), ord("~") + 1)] + ["\n"]


def reads(test, text, draft):
    made = read_draft(text)
    test.assertIs(type(made), Draft)
    test.assertEqual(made, draft)


def fails(test, text, row):
    refused(test, NoText, "row", row, read_draft, text)


def with_states(draft, states):
    """The Draft with its changes in these states, by their first letters."""
    for number, state in enumerate(states):
        {"o": draft.open_again, "t": draft.take, "l": draft.leave}[state](number)
    return draft


class EachChange(unittest.TestCase):
    CHANGES = [
        ("put", 0, 2, ("x", "#b")), ("put", 1, 0, ("~b", "&b", "^x", "@y", "z")), ("strike", 1, 1, 4), ("style", 1, "-"),
        ("style", 1, "quote"), ("add", -1, head(3)), ("add", 2, para("x { y } [ z ]", "s")), ("add", 0, num(2, "x")),
        ("add", 1, figure(6, "x")), ("add", 1, ("contents", 2)), ("add", 1, ("figures",)), ("add", 1, ("break",)),
        ("add", 1, ("include", "x")), ("add", 1, para()), ("cut", 2), ("move", 2, -1), ("move", 0, 0), ("move", 0, 2)]

    def test_in_each_state(self):
        for change in self.CHANGES:
            for state in "otl":
                draft = with_states(Draft(Text(ROWS), (("anna", change),)), state)
                reads(self, str(draft), draft)
                self.assertEqual(read_draft(str(draft)).state(), draft.state())

    def test_lines(self):
        for line, change in {
                "put 0 2 x #b": ("put", 0, 2, ("x", "#b")), "strike 1 1 4": ("strike", 1, 1, 4),
                "style 1 -": ("style", 1, "-"), "add -1 para - a { b }": ("add", -1, para("a { b }")),
                "add 2 break": ("add", 2, ("break",)), "cut 0": ("cut", 0), "move 0 -1": ("move", 0, -1),
                "move 0 2": ("move", 0, 2)}.items():
            reads(self, f"{ELDER}\n=====\nopen bob {line}", Draft(Text(ROWS), (("bob", change),)))

    def test_all_of_them(self):
        changes = tuple((changing.HANDS[number % 3], change) for number, change in enumerate(self.CHANGES))
        draft = Draft(Text(ROWS), changes)
        draft.take_all((0, 1, 3, 5, 8, 14))
        draft.leave(4)
        draft.leave(9)
        reads(self, str(draft), draft)
        self.assertEqual(str(read_draft(str(draft))), str(draft))
        self.assertEqual(len(str(draft).split("\n")), 3 + 1 + 18)


class Lines(unittest.TestCase):
    def test_without_changes_and_rows(self):
        reads(self, "=====", Draft(Text()))
        reads(self, "\n=====\n", Draft(Text()))
        reads(self, ELDER + "\n=====", Draft(Text(ROWS)))
        reads(self, "=====\nopen a add -1 break", Draft(Text(), (("a", ("add", -1, ("break",))),)))

    def test_blanks_and_lines_passed_over(self):
        text = "\n".join([
            ".. a draft", "  head  1 a  @b ", "", "para - c { d } e", ".. =====", "break", "  =====   ", "", ".. ===== b",
            "  taken   anna  cut   2 ", " ", ".. end", "left b move 0 -1  "])
        draft = with_states(Draft(Text(ROWS), (("anna", ("cut", 2)), ("b", ("move", 0, -1)))), "tl")
        reads(self, text, draft)

    def test_no_parting_line(self):
        fails(self, "", 1)
        fails(self, ELDER, 3)
        fails(self, ELDER + "\n\n.. =====\n", 6)
        fails(self, "break\n====\n=====", 1)
        fails(self, "break\n====== a", 1)
        fails(self, "break\n===== =====", 1)
        fails(self, "break\n=====.", 1)
        fails(self, "when pages\nbreak", 2)

    def test_a_second_parting_line(self):
        fails(self, ELDER + "\n=====\n=====", 4)
        fails(self, ELDER + "\n=====\nopen a cut 0\n\n =====\nopen a cut 1", 6)

    def test_lines_of_the_text(self):
        fails(self, "break\nno\n=====\nno", 1)
        fails(self, "head 01\n=====", 0)
        fails(self, "done\n=====", 0)
        fails(self, "break\n" * 80 + "\nbreak\n=====", 81)
        fails(self, "open a cut 0\n=====", 0)
        fails(self, "break\nno", 1)

    def test_open_at_the_parting_line(self):
        fails(self, "when pages\nbreak\n=====\nno", 2)
        fails(self, "table 1\nrow\n\n.. a\n=====", 4)
        fails(self, "when pages\n=====\ndone", 1)
        fails(self, "table 1\nrow\ncell 2 1\n=====\nclose", 3)

    def test_eighty_rows(self):
        reads(self, "break\n" * 80 + "=====", Draft(Text((("break",),) * 80)))


class WrongChanges(unittest.TestCase):
    def wrong(self, *lines):
        for line in lines:
            fails(self, f"{ELDER}\n=====\n{line}", 4)
            fails(self, f"{ELDER}\n=====\nopen a cut 0\n\n.. b\n{line}\nno", 7)

    def test_states(self):
        self.wrong("anna cut 0", "Open anna cut 0", "taking anna cut 0", "closed anna cut 0", "- anna cut 0", "open",
                   "openanna cut 0", "left taken anna cut 0")

    def test_hands(self):
        self.wrong("open Anna cut 0", "open a1 cut 0", "open abcdefghi cut 0", "open - cut 0", "open cut 0", "open a")

    def test_words_and_parts(self):
        self.wrong("open a cat 0", "open a Cut 0", "open a cut", "open a cut 0 0", "open a move 0", "open a move 0 1 2",
                   "open a style 1", "open a style 1 a b", "open a put 0", "open a put 0 0", "open a put", "open a strike 1",
                   "open a strike 1 0", "open a strike 1 0 1 2", "open a add", "open a add 0", "open a add break")

    def test_numbers(self):
        self.wrong("open a cut 00", "open a cut 01", "open a cut +0", "open a cut -1", "open a cut -0", "open a cut a",
                   "open a cut 3", "open a cut 12345678901", "open a move 0 -2", "open a move 0 3", "open a move -1 0",
                   "open a move 0 00", "open a put 0 -1 x", "open a put -1 0 x", "open a put 0 3 x", "open a put 0 02 x",
                   "open a strike 1 -1 1", "open a strike 1 0 0", "open a strike 1 0 6", "open a strike -1 0 1",
                   "open a add -2 break", "open a add 3 break", "open a style -1 -", "open a add 01 break",
                   "open a cut " + "9" * 6000)

    def test_what_is_no_change_of_that_text(self):
        self.wrong("open a put 0 0 ~b", "open a put 2 0 x", "open a put 1 0 { }", "open a strike 1 1 2", "open a style 0 -",
                   "open a style 1 A", "open a strike 1 2 4", "open a strike 2 0 1")

    def test_rows_that_are_none_or_may_not_be_added(self):
        self.wrong("open a add 0 row", "open a add 0 index", "open a add 0 endnotes", "open a add 0 done",
                   "open a add 0 when pages", "open a add 0 table 1", "open a add 0 style s 0 0 0 left",
                   "open a add 0 head 4", "open a add 0 head 01", "open a add 0 head 1 ~b", "open a add 0 para - {",
                   "open a add 0 break now", "open a add 0 include A", "open a add 0 para", "open a add 0 cell 1 1")

    def test_tokens(self):
        self.wrong("open a put 0 0 x!", "open a put 0 0 @A", "open a put 0 0 abcdefghijklm", "open a put 0 0 -",
                   "open a put 1 0 " + "x " * 41)

    def test_a_twenty_fifth(self):
        text = ELDER + "\n=====" + "\nopen a cut 0" * 24
        self.assertEqual(len(read_draft(text)), 24)
        self.assertEqual(len(read_draft(text + "\n\n.. a\n")), 24)
        fails(self, text + "\nopen a cut 0", 28)
        fails(self, text + "\n\n..\nleft a cut 0", 30)
        fails(self, text + "\nno", 28)


class ClashesInATakenOne(unittest.TestCase):
    def test_with_one_taken_ahead(self):
        head_of = ELDER + "\n=====\n"
        fails(self, head_of + "taken a cut 0\ntaken b put 0 0 x", 5)
        fails(self, head_of + "taken a put 0 0 x\nopen a cut 1\n\ntaken b cut 0", 7)
        fails(self, head_of + "taken a style 1 s\ntaken b style 1 s\ntaken c style 1 t\nno", 6)
        fails(self, head_of + "taken a strike 1 0 5\ntaken b put 1 4 x", 5)
        fails(self, head_of + "taken a move 0 1\ntaken b move 0 2", 5)

    def test_where_one_is_not_taken(self):
        head_of = ELDER + "\n=====\n"
        for one, other in (("open", "open"), ("open", "taken"), ("taken", "open"), ("left", "taken"), ("taken", "left")):
            made = read_draft(f"{head_of}{one} a cut 0\n{other} b put 0 0 x")
            self.assertEqual(made.state(), (one, other))
            self.assertEqual(made.clashes(), ((0, 1, 0),))

    def test_taken_ones_that_go_together(self):
        made = read_draft(ELDER + "\n=====\ntaken a cut 0\ntaken b cut 0\ntaken c add 0 break\ntaken d style 1 s")
        self.assertEqual(made.text().rows, (("break",), para("c { d } e", "s"), ("break",)))

    def test_too_many_is_no_matter_in_reading(self):
        made = read_draft("para - " + "a " * 40 + "\n=====\ntaken a put 0 0 x")
        self.assertEqual(made.state(), ("taken",))


class NoTextThere(unittest.TestCase):
    def test_what_is_no_text(self):
        for thing in [*OTHER_THINGS, *NUMBERS, (), ["====="], b"====="]:
            refused(self, NoText, "row", 0, read_draft, thing)

    def test_by_name(self):
        reads(self, "=====", read_draft(text="====="))
        refused(self, NoText, "row", 1, read_draft, text="=====\nno")
        self.assertEqual(drafttexts.read_draft.__module__, "papertongue.drafttexts")


class ReadAgain(unittest.TestCase):
    def drafts(self):
        for number in range(250):
            text = changing.random_text(number, rows=2 + number % 25, long=2 + number % 12)
            changes = changing.random_changes(number, text.rows)
            draft = Draft(text, changes)
            chance = random.Random(number)
            draft.take_all(tuple(changing.together(chance, changes)))
            for at, state in enumerate(draft.state()):
                if state == "open" and chance.random() < 0.4:
                    draft.leave(at)
            yield draft

    def test_the_draft_again(self):
        for draft in self.drafts():
            made = read_draft(str(draft))
            self.assertEqual(made, draft)
            self.assertEqual(str(made), str(draft))
            self.assertEqual((made.elder(), made.changes, made.state()), (draft.elder(), draft.changes, draft.state()))

    def test_signs_put_in_left_out_and_exchanged(self):
        taken = 0
        for number, draft in enumerate(self.drafts()):
            if number % 25 == 3:
                chance = random.Random(number)
                text = str(draft)
                for sign in SIGNS * 2:
                    at = chance.randint(0, len(text))
                    for given in (text[:at] + sign + text[at:], text[:at] + sign + text[at + 1:], text[:at] + text[at + 1:]):
                        taken += self.look_at(given)
        self.assertGreater(taken, 200)

    def look_at(self, given):
        try:
            made = read_draft(given)
        except NoText as error:
            self.assertIn(error.row, range(given.count("\n") + 2))
            return 0
        self.assertEqual(read_draft(str(made)), made)
        return 1


if __name__ == "__main__":
    unittest.main()
