"""Point 25: the checker takes what is true with its paper, and nothing else."""

import ast
import pathlib
import unittest

from papertongue import checker
from papertongue.checker import holds
from papertongue.documents import Document
from papertongue.drafts import Draft
from papertongue.numbers import counted, number_of, numbers
from papertongue.places import shown, source
from papertongue.printing import printed
from papertongue.reading import read_text
from papertongue.texts import Text

from helper import NUMBERS, OTHER_THINGS, document, dot, figure, para
from mutating import otherwise
from randoms import random_document

MAIN = "\n".join([
    "counter foot a 1", "contents 2", "head 1 One @one", "para - See #two on ~two and &two { a note @note } ^word",
    "figure 2 Caption @fig", "include more", "index", "endnotes"])
MORE = "head 2 Two @two\npara - b ~one [ an end ~fig ] ^word\n" + "item 1 num x\n" * 8 + "when plain\npara - @lost x\ndone"
SOURCES = (("main", MAIN), ("more", MORE))
MADE = Document((("main", read_text(MAIN)), ("more", read_text(MORE))))
SIZES = [("plain",), ("screen", 24), ("screen", 40), ("pages", 24, 10), ("pages", 30, 14), ("pages", 40, 24)]


def is_just(one, other):
    """Whether these are alike, kinds and all."""
    return repr(one) == repr(other)


class CheckerCase(unittest.TestCase):
    def true(self, claim, paper):
        self.assertIs(holds(claim, paper), True, (claim, paper))

    def false(self, claim, paper):
        self.assertIs(holds(claim, paper), False, (claim, paper))

    def just_this(self, claim, paper, but=()):
        """See that it is true, and nothing that is otherwise in one thing; but the parts of these numbers."""
        self.true(claim, paper)
        for other in otherwise(paper):
            self.false(claim, other)
        for thing in [*OTHER_THINGS, *NUMBERS]:
            if not is_just(thing, paper):
                self.false(claim, thing)
        for at in range(len(claim)):
            if at not in but:
                for part in [*otherwise(claim[at]), *OTHER_THINGS, *NUMBERS]:
                    if not is_just(part, claim[at]):
                        self.false(claim[:at] + (part,) + claim[at + 1:], paper)
        self.false(list(claim), paper)
        self.false(claim + (None,), paper)
        self.false(claim[:-1], paper)
        self.false((claim,), paper)
        for word in ("Number", "papers", "", "sources"):
            self.false((word,) + claim[1:], paper)

    def look_at_sources(self, claim, paper, at=1):
        """See that SOURCES which make no Document, or are no plain forms, don't hold."""
        sources = claim[at]
        (name, text), *others = sources
        others = tuple(others)
        wrong = [
            (), list(sources), (list(sources[0]),) + others, (("A", text),) + others, ((name, text + " "),) + others,
            ((name, text + "\n"),) + others, ((name, " " + text),) + others, ((name, ".. a\n" + text),) + others,
            ((name, text.replace(" ", "  ", 1)),) + others, ((name, text, text),) + others, ((name,),) + others,
            (name, text), ((name, read_text(text)),) + others, ((name, text.encode()),) + others, ((text, name),) + others,
            ((name, text + "\nno"),) + others, ((name, text + "\nwhen pages"),) + others, sources + ((name, ""),),
            ((name, text + "\ninclude gone"),) + others, ((name, text + f"\ninclude {name}"),) + others,
            ((name, text + "\npara lost a"),) + others, ((name, text + "\npara - #gone"),) + others,
            ((name, text + "\npara - @same @same"),) + others, sources + (("z", "style s 0 0 0 left"),),
            sources + tuple(("abcdefgh"[:n], "") for n in range(3, 9)), Document(((name, Text()),)), text, None]
        for told in wrong:
            self.false(claim[:at] + (told,) + claim[at + 1:], paper)
        for thing in [*OTHER_THINGS, *NUMBERS]:
            self.false(claim[:at] + (thing,) + claim[at + 1:], paper)
            self.false(claim[:at] + ((thing,) + others,) + claim[at + 1:], paper)
            self.false(claim[:at] + (((name, thing),) + others,) + claim[at + 1:], paper)
            self.false(claim[:at] + (((thing, text),) + others,) + claim[at + 1:], paper)


class NumbersAndMarks(CheckerCase):
    def test_numbers(self):
        for row, token, _, number in numbers(MADE):
            self.just_this(("number", SOURCES, row, token, number), counted(MADE, row, token), but=(1,))
        self.look_at_sources(("number", SOURCES, 2, None, "1"), ((2, None),))

    def test_numbers_of_other_places(self):
        self.true(("number", SOURCES, 2, None, "1"), ((2, None),))
        for row in range(-1, 25):
            for token in [None, *range(-1, 12)]:
                if (row, token) != (2, None):
                    self.false(("number", SOURCES, row, token, "1"), ((2, None),))

    def test_a_number_that_many_made(self):
        rows = [row for row, _, kind, _ in numbers(MADE) if kind == "item"]
        self.assertEqual(len(rows), 8)
        paper = tuple((row, None) for row in rows)
        self.just_this(("number", SOURCES, rows[-1], None, "8"), paper, but=(1,))
        self.false(("number", SOURCES, rows[-1], None, "8"), paper[::-1])
        self.false(("number", SOURCES, rows[-1], None, "8"), paper[1:])
        self.false(("number", SOURCES, rows[-1], None, "7"), paper[:-1])

    def test_another_document(self):
        self.false(("number", (("main", "para - a"),), 2, None, "1"), ((2, None),))
        other = (("main", "break\nbreak\nhead 1"),)
        self.true(("number", other, 2, None, "1"), ((2, None),))

    def test_marks(self):
        places = {"one": (2, 1), "note": (3, 9), "fig": (4, 1), "two": (5, 1)}
        for name, place in places.items():
            self.assertEqual(MADE.rows[place[0]][-1][place[1]], "@" + name)
            self.just_this(("mark", SOURCES, name, number_of(MADE, name)), place, but=(1,))
        self.look_at_sources(("mark", SOURCES, "two", "1.1"), (5, 1))

    def test_marks_of_other_names(self):
        for name in ("gone", "", "ONE", "@one", "fig", "two", "note"):
            self.false(("mark", SOURCES, name, "1"), (2, 1))
        self.false(("mark", SOURCES, "one", "-"), (2, 1))

    def test_a_mark_without_a_number(self):
        self.just_this(("mark", (("main", "para - a @m"),), "m", "-"), (0, 1), but=(1,))


class Printed(CheckerCase):
    def test_each_size(self):
        for size in SIZES:
            made = printed(MADE, size)
            self.just_this(("printed", SOURCES, size, made.pages), made.rounds, but=(1, 2))
            self.look_at_sources(("printed", SOURCES, size, made.pages), made.rounds)

    def test_sizes(self):
        for size in SIZES:
            made = printed(MADE, size)
            for other in SIZES + [("screen", 25), ("pages", 24, 11), ("pages", 25, 10), ("pages", 30, 15)]:
                is_alike = printed(MADE, other).pages == made.pages and printed(MADE, other).rounds == made.rounds
                self.assertIs(holds(("printed", SOURCES, other, made.pages), made.rounds), is_alike)
            for thing in [*OTHER_THINGS, *NUMBERS, list(size), size + (1,), size[:-1], size[0]]:
                self.false(("printed", SOURCES, thing, made.pages), made.rounds)

    def test_rounds(self):
        for size in SIZES:
            made = printed(MADE, size)
            claim = ("printed", SOURCES, size, made.pages)
            first, last = made.rounds[:1], made.rounds[-1:]
            self.assertEqual(set(first[0]), {1})
            for rounds in (
                    (), made.rounds + last, first + made.rounds, made.rounds[::-1] + last, made.rounds[1:],
                    tuple(tuple(2 for _ in one) for one in made.rounds), made.rounds + ((5,) * len(first[0]),),
                    tuple(list(one) for one in made.rounds), (made.rounds,), first[0], made.rounds[:-1]):
                if rounds != made.rounds:
                    self.false(claim, rounds)

    def test_a_size_that_is_none_or_too_tall(self):
        made = printed(MADE, ("screen", 24))
        for size in [("screen", 23), ("pages", 24), "screen", ("screen", "24"), ("screen", True), ["screen", 24], (), None]:
            self.false(("printed", SOURCES, size, made.pages), made.rounds)
        tall = (("main", "\n".join(["head 1"] * 30)),)
        for pages, rounds in (((), ((),)), (((),), ((),)), ((), ())):
            self.false(("printed", tall, ("pages", 24, 10), pages), rounds)

    def test_without_lines(self):
        self.just_this(("printed", (("main", ""),), ("pages", 24, 10), ()), ((),), but=(1, 2))
        self.true(("printed", (("main", ""),), ("pages", 24, 11), ()), ((),))

    def test_another_document(self):
        made = printed(MADE, ("plain",))
        self.false(("printed", (("main", MAIN), ("more", MORE + "\npara - a")), ("plain",), made.pages), made.rounds)
        split = (("main", "\n".join([MAIN.split("\ninclude")[0], MORE, "index\nendnotes"])),)
        self.true(("printed", split, ("plain",), made.pages), made.rounds)
        self.true(("printed", SOURCES + (("unused", "break"),), ("plain",), made.pages), made.rounds)


class Ends(CheckerCase):
    def test_each(self):
        for size in SIZES[::2]:
            made = printed(MADE, size)
            for page, why in enumerate(made.ends, 1):
                self.just_this(("ends", SOURCES, size, page, why), made.rounds, but=(1, 2))
            for page in (0, -1, len(made.ends) + 1):
                self.false(("ends", SOURCES, size, page, ("end",)), made.rounds)
        self.look_at_sources(("ends", SOURCES, size, 1, made.ends[0]), made.rounds)

    def test_of_each_kind(self):
        rows = [para("a"), ("break",)] + [dot(1)] * 12 + [figure(6), figure(6)]
        made = printed(document(*rows), ("pages", 24, 10))
        self.assertEqual([why[0] for why in made.ends], ["break", "full", "figures", "figures", "end"])
        sources = (("main", str(Text(tuple(rows)))),)
        for page, why in enumerate(made.ends, 1):
            self.just_this(("ends", sources, ("pages", 24, 10), page, why), made.rounds, but=(1, 2))

    def test_without_pages(self):
        for page in (0, 1):
            self.false(("ends", (("main", ""),), ("plain",), page, ("end",)), ((),))


class Stands(CheckerCase):
    def test_each(self):
        for size in SIZES[1::2]:
            made = printed(MADE, size)
            for name in ("one", "two", "fig", "note", "lost"):
                self.just_this(("stands", SOURCES, size, name, made.stands(name)), made.rounds, but=(1, 2, 3))
            self.false(("stands", SOURCES, size, "gone", None), made.rounds)
            self.false(("stands", SOURCES, size, "One", None), made.rounds)
            for thing in [*OTHER_THINGS, *NUMBERS]:
                self.false(("stands", SOURCES, size, thing, None), made.rounds)
        self.look_at_sources(("stands", SOURCES, size, "one", made.stands("one")), made.rounds)

    def test_nowhere(self):
        made = printed(MADE, ("screen", 30))
        self.assertIs(made.stands("lost"), None)
        self.true(("stands", SOURCES, ("screen", 30), "lost", None), made.rounds)
        self.false(("stands", SOURCES, ("screen", 30), "one", None), made.rounds)
        self.false(("stands", SOURCES, ("screen", 30), "lost", 1), made.rounds)
        self.false(("stands", SOURCES, ("screen", 30), "lost", "-"), made.rounds)

    def test_pages_and_lines(self):
        for size in SIZES:
            made = printed(MADE, size)
            for place in [None, *range(0, 20)]:
                claim = ("stands", SOURCES, size, "two", place)
                self.assertIs(holds(claim, made.rounds), place == made.stands("two"))


class Signs(CheckerCase):
    def test_all(self):
        for size in SIZES:
            made = printed(MADE, size)
            kinds = set()
            for page, lines in enumerate(made.pages, 1):
                for line, text in enumerate(lines, 1):
                    for column in range(len(text)):
                        what = source(made, page, line, column)
                        claim = ("sign", SOURCES, size, page, line, column, what)
                        if what[:2] in kinds or column % 7:
                            continue
                        kinds.add(what[:2])
                        self.true(claim, made.rounds)
                        for other in otherwise(what):
                            self.false(claim[:-1] + (other,), made.rounds)
            self.assertGreater(len(kinds), 6)

    def test_one_thing_otherwise(self):
        made = printed(MADE, ("pages", 24, 10))
        ((page, line, column, _),) = shown(made, 3, 0)
        claim = ("sign", SOURCES, ("pages", 24, 10), page, line, column, ("text", 3, 0, 0))
        self.just_this(claim, made.rounds, but=(1, 2))
        self.look_at_sources(claim, made.rounds)
        self.assertEqual(source(made, 1, 1, 23), ("made", "top", 2))
        self.just_this(("sign", SOURCES, ("pages", 24, 10), 1, 1, 23, ("made", "top", 2)), made.rounds, but=(1, 2, 3, 5))

    def test_signs_of_a_word(self):
        sources = (("main", "para - abc"),)
        for column in range(-1, 5):
            for offset in range(-1, 5):
                claim = ("sign", sources, ("plain",), 1, 1, column, ("text", 0, 0, offset))
                self.assertIs(holds(claim, ((),)), column == offset and column in (0, 1, 2))
        self.false(("sign", sources, ("plain",), 1, 2, 0, ("text", 0, 0, 0)), ((),))
        self.false(("sign", sources, ("plain",), 2, 1, 0, ("text", 0, 0, 0)), ((),))
        self.false(("sign", sources, ("plain",), 1, 1, 3, None), ((),))
        self.false(("sign", sources, ("plain",), 1, 1, True, ("text", 0, 0, 1)), ((),))


class Apart(CheckerCase):
    OTHERS = (("main", MAIN), ("more", MORE.replace("para - b", "para - c")))

    def test_each_size(self):
        other = Document(tuple((name, read_text(text)) for name, text in self.OTHERS))
        for size in SIZES[:4]:
            one, two = printed(MADE, size), printed(other, size)
            places = [
                (page, line) for page in range(1, len(one.pages) + 1) for line in range(1, len(one.pages[page - 1]) + 1)
                if one.pages[page - 1][line - 1] != two.pages[page - 1][line - 1]]
            claim = ("apart", SOURCES, self.OTHERS, size) + places[0]
            self.just_this(claim, (one.rounds, two.rounds), but=(1, 2, 3))
            self.look_at_sources(claim, (one.rounds, two.rounds))
            self.look_at_sources(claim, (one.rounds, two.rounds), at=2)
            self.true(("apart", self.OTHERS, SOURCES, size) + places[0], (two.rounds, one.rounds))

    def test_the_first_place_alone(self):
        one, two = (("main", "para - a\npara - b\npara - c"),), (("main", "para - a\npara - x\npara - y\npara - z"),)
        for line in range(0, 6):
            self.assertIs(holds(("apart", one, two, ("plain",), 1, line), (((),), ((),))), line == 2)
            self.false(("apart", one, two, ("plain",), 2, line), (((),), ((),)))

    def test_a_line_or_page_that_one_has_not(self):
        one, two, three = (("main", "para - a"),), (("main", "para - a\npara - b"),), (("main", ""),)
        self.just_this(("apart", one, two, ("plain",), 1, 2), (((),), ((),)), but=(1, 2, 3))
        self.just_this(("apart", two, one, ("plain",), 1, 2), (((),), ((),)), but=(1, 2, 3))
        self.just_this(("apart", three, one, ("screen", 24), 1, 1), (((),), ((),)), but=(1, 2, 3))
        more = (("main", "para - a\nbreak\npara - b"),)
        self.true(("apart", one, more, ("pages", 24, 10), 2, 1), (((),), ((),)))

    def test_any_size_in_which_they_part(self):
        one, two = (("main", "para - a"),), (("main", "para - b"),)
        for size, line in ((("plain",), 1), (("screen", 30), 1), (("pages", 24, 10), 2), (("pages", 40, 24), 2)):
            self.true(("apart", one, two, size, 1, line), (((),), ((),)))

    def test_alike_ones(self):
        one, two = (("main", "para - a"),), (("main", "para - a\nbreak"),)
        for page in range(0, 3):
            for line in range(0, 3):
                self.false(("apart", one, two, ("plain",), page, line), (((),), ((),)))
        self.false(("apart", one, one, ("plain",), 1, 1), (((),), ((),)))
        self.false(("apart", one, two, ("plain",), None, None), (((),), ((),)))

    def test_tall_ones(self):
        tall = (("main", "head 1\n" * 29 + "head 1"),)
        for paper in ((((),), ((),)), ((), ((),)), (None, ((),)), ((), ())):
            for page, line in ((0, 0), (1, 1)):
                self.false(("apart", tall, (("main", "para - a"),), ("pages", 24, 10), page, line), paper)

    def test_rounds_of_both(self):
        one, two = (("main", "para - ~m @m"),), (("main", "para - b"),)
        self.true(("apart", one, two, ("plain",), 1, 1), (((1,),), ((),)))
        self.false(("apart", one, two, ("plain",), 1, 1), (((),), ((1,),)))
        self.false(("apart", one, two, ("plain",), 1, 1), (((1,),), ((1,),)))
        self.false(("apart", one, two, ("plain",), 1, 1), (((1,),),))
        self.false(("apart", one, two, ("plain",), 1, 1), ((1,),))


class ClashesAndTaken(CheckerCase):
    ROWS = "para - a b c\nhead 1 d"
    CHANGES = (
        ("anna", ("put", 0, 1, ("x",))), ("bob", ("strike", 0, 0, 2)), ("c", ("style", 0, "s")), ("c", ("style", 0, "t")),
        ("anna", ("cut", 1)), ("bob", ("add", 1, ("head", 2, ("n",)))), ("bob", ("move", 1, -1)))
    CLASHES = ((0, 1, 0), (2, 3, 0), (4, 6, 1))

    def test_clashes(self):
        self.assertEqual(Draft(read_text(self.ROWS), self.CHANGES).clashes(), self.CLASHES)
        for told in self.CLASHES:
            self.just_this(("clash", self.ROWS, self.CHANGES) + told, None, but=(1, 2))
        for one in range(-1, 8):
            for other in range(-1, 8):
                for row in (-1, 0, 1, 2):
                    is_one = (one, other, row) in self.CLASHES
                    self.assertIs(holds(("clash", self.ROWS, self.CHANGES, one, other, row), None), is_one)

    def test_taken(self):
        for numbers_told in ((), (0,), (0, 2), (1, 3, 4, 5), (5, 6)):
            draft = Draft(read_text(self.ROWS), self.CHANGES)
            draft.take_all(numbers_told)
            claim = ("taken", self.ROWS, self.CHANGES, numbers_told, str(draft.text()))
            self.just_this(claim, None, but=(1, 2))

    def test_numbers_that_clash_or_do_not_rise(self):
        draft = Draft(read_text(self.ROWS), self.CHANGES)
        draft.take_all((0, 2))
        newer = str(draft.text())
        self.true(("taken", self.ROWS, self.CHANGES, (0, 2), newer), None)
        for told in ((2, 0), (0, 0, 2), (0, 2, 2), (0, 2, 3), (0, 1, 2), [0, 2], (False, 2), (0, 2, 7), (-1, 0, 2), (0, "2")):
            self.false(("taken", self.ROWS, self.CHANGES, told, newer), None)
        self.false(("taken", self.ROWS, self.CHANGES, (0, 1), self.ROWS), None)

    def test_another_text(self):
        draft = Draft(read_text(self.ROWS), self.CHANGES)
        draft.take(0)
        newer = str(draft.text())
        for told in (newer + " ", newer + "\n", "\n" + newer, newer + "\nbreak", self.ROWS, "", draft.text(), None):
            self.false(("taken", self.ROWS, self.CHANGES, (0,), told), None)

    def test_too_many(self):
        rows = "para - " + " ".join(["a"] * 40)
        changes = (("a", ("put", 0, 0, ("x",))),)
        self.false(("taken", rows, changes, (0,), "para - x " + " ".join(["a"] * 40)), None)
        self.true(("taken", rows, changes, (), rows), None)

    def test_texts_and_changes_that_are_none(self):
        for text in (self.ROWS + "\n", self.ROWS + " ", self.ROWS + "\nno", read_text(self.ROWS), "head 1 d", "", None,
                     ((self.ROWS),), self.ROWS.encode(), *OTHER_THINGS, *NUMBERS):
            if text != self.ROWS if isinstance(text, str) else True:
                self.false(("clash", text, self.CHANGES, 0, 1, 0), None)
                self.false(("taken", text, self.CHANGES, (0,), "para - a x b c\nhead 1 d"), None)
        wrong = [list(self.CHANGES), self.CHANGES + (None,), self.CHANGES + (("a", ("cut", 2)),), self.CHANGES * 4,
                 (("A", self.CHANGES[0][1]),) + self.CHANGES[1:], tuple(list(one) for one in self.CHANGES),
                 (("anna", ("put", False, 1, ("x",))),) + self.CHANGES[1:], None, *OTHER_THINGS, *NUMBERS]
        for changes in wrong:
            self.false(("clash", self.ROWS, changes, 0, 1, 0), None)
            self.false(("taken", self.ROWS, changes, (0,), "para - a x b c\nhead 1 d"), None)
        self.true(("taken", self.ROWS, self.CHANGES, (0,), "para - a x b c\nhead 1 d"), None)

    def test_paper_is_none(self):
        for thing in [*OTHER_THINGS[1:], *NUMBERS, "", (), (None,)]:
            self.false(("clash", self.ROWS, self.CHANGES, 0, 1, 0), thing)
            self.false(("taken", self.ROWS, self.CHANGES, (), self.ROWS), thing)


class ThingsOfAnyKind(CheckerCase):
    def test_no_claims(self):
        things = [*OTHER_THINGS, *NUMBERS, "", "number", (), ("number",), ("number", SOURCES), (None,), ((),), ("",)]
        for claim in things:
            for paper in [None, (), ((),), ((2, None),), *OTHER_THINGS]:
                self.false(claim, paper)

    def test_words_of_claims_with_things(self):
        for word in "number mark printed ends stands sign apart clash taken".split():
            for many in range(0, 8):
                for thing in OTHER_THINGS + [0, "", (), ((),)]:
                    self.false((word,) + (thing,) * many, thing)
                    self.false((word, SOURCES) + (thing,) * many, None)
            for thing in OTHER_THINGS:
                self.false((thing, SOURCES, ("plain",), ()), ((),))

    def test_by_names(self):
        self.assertIs(holds(claim=("number", (("a", "head 1"),), 0, None, "1"), paper=((0, None),)), True)
        self.assertIs(holds(paper=None, claim=None), False)
        self.assertEqual(checker.holds.__module__, "papertongue.checker")

    def test_nothing_handed_in_changes(self):
        claim = ["number", [["a", "head 1"]], 0, None, "1"]
        paper = [[0, None]]
        self.false(claim, paper)
        self.assertEqual((claim, paper), (["number", [["a", "head 1"]], 0, None, "1"], [[0, None]]))


class Imports(unittest.TestCase):
    # Of the document's stages 1 to 9 and the rules of changes.
    LATER = {"places", "reprints", "apart", "drafts", "drafttexts", "changetexts", "papers", "desk", "checker"}

    def test_none_of_a_later_stage(self):
        package = pathlib.Path(checker.__file__).parent
        ahead, seen = ["checker"], set()
        while ahead:
            name = ahead.pop()
            for node in ast.parse((package / f"{name}.py").read_text(encoding="utf-8")).body:
                if isinstance(node, ast.ImportFrom):
                    told = node.module.split(".")[1]
                    self.assertNotIn(told, self.LATER)
                    if told not in seen:
                        seen.add(told)
                        ahead.append(told)
        self.assertIn("changes", seen)
        self.assertIn("printing", seen)


class ByChance(CheckerCase):
    def test_documents(self):
        for number in range(0, 60, 3):
            made = random_document(number, rows=10, long=8)
            sources = tuple((name, str(text)) for name, text in made.texts)
            for row, token, _, told in numbers(made)[:6]:
                self.true(("number", sources, row, token, told), counted(made, row, token))
                self.false(("number", sources, row, token, told + "1"), counted(made, row, token))
            for size in (("plain",), ("screen", 31)):
                printing = printed(made, size)
                self.true(("printed", sources, size, printing.pages), printing.rounds)
                self.false(("printed", sources, size, printing.pages + ((),)), printing.rounds)


if __name__ == "__main__":
    unittest.main()
