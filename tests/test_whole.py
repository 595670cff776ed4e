"""Points 1 to 3: what the whole promises, of documents from the first line to the last paper."""

import random
import unittest

from papertongue.apart import apart
from papertongue.checker import holds
from papertongue.desk import Desk
from papertongue.documents import Document, document_of
from papertongue.drafts import Draft
from papertongue.drafttexts import read_draft
from papertongue.errors import Clash, NoMark, NoStyle, RoomError, StandError, TongueError, TooMany, TooTall, Twice
from papertongue.numbers import counted, number_of, numbers
from papertongue.papers import paper_apart, paper_clash, paper_ends, paper_mark, paper_number, paper_printed
from papertongue.papers import paper_sign, paper_stands, paper_taken
from papertongue.places import shown, source
from papertongue.printing import as_plain, on_pages, on_screen, printed
from papertongue.reading import read_text
from papertongue.reprints import reprinted
from papertongue.texts import Text

import changing
from randoms import cuts_of, random_document, random_rows

SIZES = [("plain",), ("screen", 24), ("screen", 37), ("pages", 24, 10), ("pages", 33, 17), ("pages", 40, 24)]

MAIN = """.. A paper in two texts.
style quote 2 1 1 right
counter head A 1
counter foot a 1
contents 2
figures

head 1 Of paper @paper
para - Paper { made of rags @rags , see ~tab } is ^old and ^white , says #tab &tab on ~tab
para quote As #rags tells [ in a note ] so #paper and ~lost &lost
figure 3 A sheet @sheet
include tongue
when screen
para - On a screen @lost alone
done
index
endnotes
"""

TONGUE = """head 2 Of tongues @tongue
item 1 num first ^old
item 2 dot second
item 1 num third @third
table 3 Signs @tab
row
cell 2 1 a ~sheet
cell 1 2 b
row
cell 1 1 c
cell 1 1 d #third
close
break
head 1 Of both
para - Both ^White ^old &sheet
"""


def made_of(main, tongue):
    return Document((("main", read_text(main)), ("tongue", read_text(tongue))))


def told(asked, *given):
    """What is told, or how it is refused."""
    try:
        return asked(*given)
    except (TongueError, StandError, RoomError) as error:
        return (type(error).__name__, vars(error))


class OneDocument(unittest.TestCase):
    def setUp(self):
        self.made = made_of(MAIN, TONGUE)

    def test_read_and_written(self):
        for name, text in self.made.texts:
            self.assertEqual(read_text(str(text)), text)
        self.assertEqual(document_of(read_text(str(self.made))), self.made)
        self.assertEqual(len(self.made), 29)

    def test_plain(self):
        self.assertEqual(str(as_plain(self.made)).split("\n"), [
            "A Of paper 5", "A.1 Of tongues 10", "B Of both 17", "1. A sheet 9", "A Of paper",
            "Paper (A.a) is old and white , says 1 below on 14", "(A.a) made of rags , see 14",
            "As A.a tells [1] so A and - -", "Figure 1. A sheet", "A.1 Of tongues", "1. first old", "- second", "2. third",
            "Table 1. Signs", "a 9 | b", "c | d 2", "B Of both", "Both White old above", "old 6, 11, 18", "White 18",
            "white 6", "[1] in a note"])

    def test_pages(self):
        made = on_pages(self.made, width=33, height=17)
        self.assertEqual(made.ends, (("full", 9, 3, 2), ("break", 21), ("end",)))
        self.assertEqual(made.pages[2], (
            "B Of both                       3", "B Of both", "", "Both White old above", "", "old 1, 2, 3", "White 3",
            "white 1", "", "[1] in a note"))

    def test_numbers_are_the_same_in_all_printings(self):
        for size in SIZES:
            made = printed(self.made, size)
            for row, token, _, number in numbers(self.made):
                if token is not None:
                    word = self.word(made, row, token)
                    self.assertEqual(word.strip("()[]"), number)
                if token is None and row in self.made.shown_in(size[0]):
                    self.assertIn(number, "\n".join(line for page in made.pages for line in page))

    def word(self, made, row, token):
        pieces = shown(made, row, token)
        return "".join(made.pages[page - 1][line - 1][first:behind] for page, line, first, behind in pieces)

    def test_there_and_back(self):
        for size in SIZES:
            made = printed(self.made, size)
            for page, lines in enumerate(made.pages, 1):
                for line, text in enumerate(lines, 1):
                    for column in range(len(text)):
                        what = source(made, page, line, column)
                        if what[0] == "text":
                            pieces = shown(made, what[1], what[2])
                            places = [(p, l, c) for p, l, first, behind in pieces for c in range(first, behind)]
                            self.assertEqual(places[what[3]], (page, line, column))

    def test_all_papers(self):
        for row, token, _, _ in numbers(self.made):
            self.assertIs(holds(*paper_number(self.made, row, token)), True)
        for name in ("paper", "rags", "tab", "lost", "sheet", "tongue", "third"):
            self.assertIs(holds(*paper_mark(self.made, name)), True)
            for size in SIZES:
                self.assertIs(holds(*paper_stands(self.made, size, name)), True)
        for size in SIZES:
            claim, paper = paper_printed(self.made, size)
            self.assertIs(holds(claim, paper), True)
            for page in range(1, len(claim[3]) + 1):
                self.assertIs(holds(*paper_ends(self.made, size, page)), True)
                self.assertIs(holds(*paper_sign(self.made, size, page, 1, 0)), claim[3][page - 1][0][0] != "")

    def test_changed_printed_anew_and_told_apart(self):
        text = read_text(TONGUE)
        draft = Draft(text, (
            ("anna", ("put", 14, 1, ("more", "words"))), ("bob", ("strike", 1, 0, 1)), ("anna", ("cut", 2)),
            ("bob", ("put", 2, 0, ("new",))), ("bob", ("add", -1, ("para", "-", ("ahead",))))))
        self.assertEqual(draft.clashes(), ((2, 3, 2),))
        self.assertIs(holds(*paper_clash(draft, 2, 3)), True)
        draft.take_all((0, 1))
        self.assertIs(holds(*paper_taken(draft)), True)
        newer = Document((self.made.texts[0], ("tongue", draft.text())))
        for size in SIZES:
            elder = printed(self.made, size)
            made, pages = reprinted(elder, newer)
            self.assertEqual(made, printed(newer, size))
            for page in range(1, len(made) + 1):
                self.assertEqual(page not in pages, elder.pages[page - 1:page] == made.pages[page - 1:page])
        size, page, line = apart(self.made, newer)
        self.assertEqual(size, ("plain",))
        one, other = as_plain(self.made).pages[0], as_plain(newer).pages[0]
        self.assertEqual(one[:line - 1], other[:line - 1])
        self.assertNotEqual(one[line - 1:line], other[line - 1:line])
        self.assertIs(holds(*paper_apart(self.made, newer)), True)

    def test_at_a_desk(self):
        desk = Desk()
        for name, text in (("main", MAIN), ("tongue", TONGUE)):
            desk.say("text " + name)
            for line in text.split("\n"):
                if line:
                    desk.say("row " + line)
        for size in SIZES:
            line = " ".join(str(part) for part in size)
            self.assertEqual(desk.say(line), str(printed(self.made, size)).replace("\n", " / "))
            self.assertEqual(desk.say("paper " + line), "holds")
        self.assertEqual(desk.say("numbers").split(" ")[0], "5:A")


class NamesOtherwise(unittest.TestCase):
    def renamed(self, text):
        """The text with other names of marks, styles and included texts."""
        lines = []
        for line in text.split("\n"):
            words = []
            for at, word in enumerate(line.split(" ")):
                if word[:1] in ("@", "#", "~", "&"):
                    word = word[0] + "z" + word[:0:-1][:7]
                elif at == 1 and line.split(" ")[0] in ("style", "para", "include") and word != "-":
                    word = "y" + word
                words.append(word)
            lines.append(" ".join(words))
        return "\n".join(lines)

    def test_nothing_shown_hangs_on_them(self):
        one = made_of(MAIN, TONGUE)
        other = Document((("first", read_text(self.renamed(MAIN))), ("ytongue", read_text(self.renamed(TONGUE)))))
        self.assertNotEqual(one, other)
        self.assertEqual(numbers(one), numbers(other))
        for size in SIZES:
            self.assertEqual(printed(one, size), printed(other, size))
            self.assertEqual(printed(one, size).rounds, printed(other, size).rounds)
        self.assertIs(apart(one, other), None)
        self.assertIs(paper_apart(one, other), None)
        for name in ("paper", "rags", "tab", "lost", "sheet", "tongue", "third"):
            self.assertEqual(number_of(one, name), number_of(other, "z" + name[::-1][:7]))
            self.assertEqual(on_pages(one).stands(name), on_pages(other).stands("z" + name[::-1][:7]))

    def test_by_chance(self):
        for number in range(30):
            made = random_document(number, rows=14, long=9)
            text = self.renamed(str(made))
            if len(made) <= 80:
                other = document_of(read_text(text))
                self.assertEqual(numbers(made), numbers(other))
                for size in SIZES:
                    one, two = told(printed, made, size), told(printed, other, size)
                    self.assertEqual(one, two)


class SplitOverTexts(unittest.TestCase):
    def test_alike_documents(self):
        for number in range(30):
            rows = random_rows(number, rows=15, long=8)
            rules = tuple(row for row in rows if row[0] in ("style", "counter"))
            rest = rows[len(rules):]
            if len(rows) > 80:
                continue
            whole = document_of(Text(rows))
            for many in (1, 2, 4):
                names = "bcde"[:many]
                texts = [("a", Text(rules + tuple(("include", name) for name in names)))]
                texts += [(name, Text(part)) for name, part in zip(names, cuts_of(rest, many))]
                split = Document(tuple(texts))
                self.assertEqual(split, whole)
                self.assertEqual(numbers(split), numbers(whole))
                self.assertEqual(split.shown_in("pages"), whole.shown_in("pages"))
                for size in SIZES[number % 3::3]:
                    self.assertEqual(told(printed, split, size), told(printed, whole, size))
                self.assertIs(apart(split, whole), None)


class History(unittest.TestCase):
    def test_by_several_hands(self):
        """Drafts behind drafts: each taken in another turn, by texts, by desks; each printed anew."""
        for number in range(25):
            chance = random.Random(number)
            text = changing.random_text(number, rows=10, long=6)
            for step in range(4):
                changes = changing.random_changes(number * 10 + step, text.rows, most=8)
                chosen = changing.together(chance, changes)
                draft = Draft(text, changes)
                draft.take_all(tuple(chosen))
                other = read_draft(str(Draft(text, changes)))
                for one in sorted(chosen, reverse=True):
                    other.take(one)
                self.assertEqual(other, draft)
                newer = told(draft.text)
                self.assertEqual(told(other.text), newer)
                if not isinstance(newer, Text):
                    break
                self.look_at_desk(draft, chosen, newer)
                self.look_at_prints(text, newer)
                self.assertEqual(draft.elder(), text)
                text = newer

    def look_at_desk(self, draft, chosen, newer):
        desk = Desk()
        lines = str(draft).split("\n")
        parting = lines.index("=====")
        for line in lines[:parting]:
            self.assertEqual(desk.say("row " + line), "ok")
        for line in lines[parting + 1:]:
            self.assertEqual(desk.say("change " + line.split(" ", 1)[1]), "ok")
        for one in chosen:
            self.assertEqual(desk.say(f"take {one}"), "ok")
        self.assertEqual(desk.say("draft"), " / ".join(lines))
        self.assertEqual(read_draft(desk.say("draft").replace(" / ", "\n")), draft)
        self.assertEqual(desk.say("keep"), "ok")
        self.assertEqual(desk.say("draft"), str(Draft(newer)).replace("\n", " / "))
        self.assertEqual(told(desk.say, "plain"), told(self.plain_line, newer))

    def plain_line(self, text):
        return str(as_plain(document_of(text))).replace("\n", " / ")

    def look_at_prints(self, text, newer):
        """What is printed anew is as if printed from the beginning."""
        elder, made = told(document_of, text), told(document_of, newer)
        if isinstance(elder, Document) and isinstance(made, Document):
            for size in SIZES:
                printing = told(printed, elder, size)
                if not isinstance(printing, tuple):
                    again, fresh = told(reprinted, printing, made), told(printed, made, size)
                    self.assertEqual(again if isinstance(fresh, tuple) else again[0], fresh)


class OfAnyKind(unittest.TestCase):
    def test_truths_and_whole_numbers(self):
        made = made_of(MAIN, TONGUE)
        self.assertIs(type(holds(*paper_printed(made, ("plain",)))), bool)
        self.assertIs(type(holds(None, None)), bool)
        for row, token, kind, number in numbers(made):
            self.assertIs(type(row), int)
            self.assertIn(type(token), (int, type(None)))
            self.assertIs(type(kind), str)
            self.assertIs(type(number), str)
            self.assertIs(type(counted(made, row, token)), tuple)

    def test_what_settles_by_rounds_always_ends(self):
        for number in range(40):
            made = random_document(number + 500, rows=30, long=10)
            for size in SIZES:
                printing = told(printed, made, size)
                if not isinstance(printing, tuple):
                    self.assertLess(len(printing.rounds), 60)

    def test_what_is_refused_changes_nothing(self):
        text = read_text(TONGUE)
        draft = Draft(text, (("a", ("cut", 0)), ("b", ("put", 0, 0, ("x",)))))
        draft.take(0)
        before = (str(draft), draft.state(), draft.text(), draft.clashes())
        for asked, error in ((lambda: draft.take(1), Clash), (lambda: draft.take_all((1, 0)), Clash), (draft.newer, Clash)):
            with self.assertRaises(error):
                asked()
            self.assertEqual((str(draft), draft.state(), draft.text(), draft.clashes()), before)

    def test_documents_by_texts_that_change(self):
        """A Text by changes may make no Document, though all of its changes are taken."""
        text = read_text("para - a @m\npara - #m")
        for change, error in ((("strike", 0, 1, 2), NoMark), (("put", 1, 0, ("@m",)), Twice), (("style", 0, "s"), NoStyle)):
            draft = Draft(text, (("a", change),))
            draft.take(0)
            with self.assertRaises(error):
                document_of(draft.text())

    def test_alike_things_of_other_kinds(self):
        made = made_of(MAIN, TONGUE)
        things = [read_text(TONGUE), made, as_plain(made), on_screen(made), on_pages(made), Draft(read_text(TONGUE))]
        for at, one in enumerate(things):
            for place, other in enumerate(things):
                self.assertIs(one == other, at == place)
                self.assertIs(one != other, at != place)
        self.assertEqual([repr(thing) for thing in things], [
            "Text(15)", "Document(29)", "Printing(plain 1)", "Printing(screen 1)", f"Printing(pages {len(things[4])})",
            "Draft(0)"])


if __name__ == "__main__":
    unittest.main()
