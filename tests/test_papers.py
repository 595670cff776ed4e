"""Point 26: the house's papers, each with the claim that is true."""

import unittest

from papertongue import papers
from papertongue.apart import apart
from papertongue.checker import holds
from papertongue.documents import Document
from papertongue.drafts import Draft
from papertongue.errors import NoDocument, NoMark, NoNumber, NoPlace, NoSize, TooMany, TooTall
from papertongue.numbers import counted, number_of, numbers
from papertongue.papers import paper_apart, paper_clash, paper_ends, paper_mark, paper_number, paper_printed
from papertongue.papers import paper_sign, paper_stands, paper_taken
from papertongue.places import source
from papertongue.printing import as_plain, printed
from papertongue.texts import Text

import changing
from helper import NUMBERS, OTHER_THINGS, document, dot, figure, head, num, para, refused, table, words
from randoms import random_document

BREAK = ("break",)
SIZES = [("plain",), ("screen", 24), ("screen", 33), ("pages", 24, 10), ("pages", 30, 14), ("pages", 40, 24)]
NO_SIZES = [("screen", 23), ("pages", 24), ("plain", 1), ["plain"], "plain", None, ("pages", 24, True)]
MADE = Document((
    ("main", Text((
        ("counter", "foot", "a", 1), ("contents", 2), head(1, "One @one"), para("See #two on ~two { note @note } ^word"),
        figure(2, "Caption @fig"), ("include", "more"), ("index",)))),
    ("more", Text((
        head(2, "Two @two"), *table(2, "", ["a", "b @cell"]), para("c [ end ] &one"), *[num(1, "x")] * 3,
        ("when", "plain"), para("@lost x"), ("done",))))))
SOURCES = tuple((name, str(text)) for name, text in MADE.texts)
TALL = document(para("x @m"), *[head(1)] * 13)


def no_documents():
    """What is no Document."""
    made = document(para("a"))
    for thing in [*OTHER_THINGS, *NUMBERS, "", (), made.texts, as_plain(made), Text((BREAK,))]:
        if type(thing) is not Document:
            yield thing


class PaperCase(unittest.TestCase):
    def just(self, made, claim, paper):
        """See that it is this claim with this paper, and that the checker takes them."""
        self.assertIs(type(made), tuple)
        self.assertEqual(repr(made), repr((claim, paper)))
        self.assertIs(holds(*made), True)


class NumbersAndMarks(PaperCase):
    def test_numbers(self):
        kinds = set()
        for row, token, kind, number in numbers(MADE):
            made = paper_number(MADE, row, token)
            self.just(made, ("number", SOURCES, row, token, number), counted(MADE, row, token))
            kinds.add(kind)
        self.assertEqual(kinds, {"head", "foot", "end", "table", "figure", "item"})
        self.assertEqual(paper_number(MADE, 2), paper_number(token=None, row=2, document=MADE))

    def test_no_numbers(self):
        for thing in no_documents():
            refused(self, NoDocument, "place", None, paper_number, thing, 2)
            refused(self, NoDocument, "place", None, paper_number, thing, None, ())
        told = {place[:2] for place in numbers(MADE)}
        for row in range(-2, 25):
            for token in [None, *range(-1, 9)]:
                if (row, token) not in told:
                    refused(self, NoNumber, "place", (row, token), paper_number, MADE, row, token)
        for thing in OTHER_THINGS:
            self.assertIs(refused(self, NoNumber, "place", (thing, None), paper_number, MADE, thing).place[0], thing)
            if thing is not None:
                refused(self, NoNumber, "place", (2, thing), paper_number, MADE, 2, token=thing)

    def test_marks(self):
        places = {"one": (2, 1), "note": (3, 6), "fig": (4, 1), "two": (5, 1), "cell": (9, 1)}
        for name, place in places.items():
            self.just(paper_mark(MADE, name), ("mark", SOURCES, name, number_of(MADE, name)), place)
        self.assertEqual(paper_mark(name="one", document=MADE), paper_mark(MADE, "one"))

    def test_no_marks(self):
        for thing in no_documents():
            refused(self, NoDocument, "place", None, paper_mark, thing, "one")
            refused(self, NoDocument, "place", None, paper_mark, thing, None)
        for thing in [*OTHER_THINGS, *NUMBERS, "", "gone", "@one", "One"]:
            self.assertIs(refused(self, NoMark, "name", thing, paper_mark, MADE, thing).name, thing)


class Printings(PaperCase):
    # Each question with its further arguments, first as they may be, then as what comes behind SIZE may not be.
    QUESTIONS = [
        (paper_printed, (), None, None), (paper_ends, (1,), NoPlace, (99,)), (paper_stands, ("one",), NoMark, ("gone",)),
        (paper_sign, (1, 1, 0), NoPlace, (99, 1, 0))]

    def test_printed(self):
        for size in SIZES:
            made = printed(MADE, size)
            self.just(paper_printed(MADE, size), ("printed", SOURCES, size, made.pages), made.rounds)
        self.assertEqual(paper_printed(size=size, document=MADE), paper_printed(MADE, size))

    def test_without_lines(self):
        for size in SIZES:
            self.just(paper_printed(document(), size), ("printed", (("main", ""),), size, ()), ((),))
            refused(self, NoPlace, "place", 1, paper_ends, document(), size, 1)
            refused(self, NoPlace, "place", (1, 1, 0), paper_sign, document(), size, 1, 1, 0)

    def test_ends(self):
        for size in SIZES:
            made = printed(MADE, size)
            for page, why in enumerate(made.ends, 1):
                self.just(paper_ends(MADE, size, page), ("ends", SOURCES, size, page, why), made.rounds)
            for page in [0, -1, len(made.ends) + 1, *OTHER_THINGS, "1", (1,), 10 ** 30]:
                self.assertIs(refused(self, NoPlace, "place", page, paper_ends, MADE, size, page).place, page)
        self.assertEqual(paper_ends(page=1, size=size, document=MADE), paper_ends(MADE, size, 1))

    def test_stands(self):
        for size in SIZES:
            made = printed(MADE, size)
            for name in ("one", "two", "fig", "note", "cell", "lost"):
                place = made.stands(name)
                self.just(paper_stands(MADE, size, name), ("stands", SOURCES, size, name, place), made.rounds)
            self.assertEqual(made.stands("lost") is None, size != ("plain",))
            for thing in [*OTHER_THINGS, *NUMBERS, "", "gone", "@one"]:
                self.assertIs(refused(self, NoMark, "name", thing, paper_stands, MADE, size, thing).name, thing)
        self.assertEqual(paper_stands(name="one", size=size, document=MADE), paper_stands(MADE, size, "one"))

    def test_signs(self):
        for size in SIZES:
            made = printed(MADE, size)
            for page, lines in enumerate(made.pages, 1):
                for line, text in enumerate(lines, 1):
                    for column in range(len(text)):
                        if (line + column) % 3 == 0:
                            claim = ("sign", SOURCES, size, page, line, column, source(made, page, line, column))
                            self.just(paper_sign(MADE, size, page, line, column), claim, made.rounds)
                    refused(self, NoPlace, "place", (page, line, len(text)), paper_sign, MADE, size, page, line, len(text))
            for thing in OTHER_THINGS:
                for place in ((thing, 1, 0), (1, thing, 0), (1, 1, thing)):
                    refused(self, NoPlace, "place", place, paper_sign, MADE, size, *place)
        self.assertEqual(
            paper_sign(column=0, line=1, page=1, size=size, document=MADE), paper_sign(MADE, size, 1, 1, 0))

    def test_no_document(self):
        for asked, rest, _, _ in self.QUESTIONS:
            for thing in no_documents():
                refused(self, NoDocument, "place", None, asked, thing, ("plain",), *rest)
                refused(self, NoDocument, "place", None, asked, thing, None, *[None for _ in rest])

    def test_no_size(self):
        for asked, rest, _, _ in self.QUESTIONS:
            for thing in NO_SIZES + OTHER_THINGS:
                self.assertIs(refused(self, NoSize, "size", thing, asked, MADE, thing, *rest).size, thing)
                self.assertIs(refused(self, NoSize, "size", thing, asked, TALL, thing, *[None for _ in rest]).size, thing)

    def test_too_tall_goes_with_the_size(self):
        for asked, rest, error, wrong in self.QUESTIONS:
            refused(self, TooTall, "row", 1, asked, TALL, ("pages", 24, 10), *rest)
            refused(self, TooTall, "row", 1, asked, TALL, ("pages", 24, 10), *wrong or ())
            if error is not None:
                with self.assertRaises(error):
                    asked(TALL, ("screen", 24), *wrong)

    def test_by_chance(self):
        many = 0
        for number in range(40):
            made = random_document(number, rows=14, long=9)
            for size in SIZES[number % 3::3]:
                try:
                    paper = paper_printed(made, size)
                except TooTall:
                    continue
                self.assertIs(holds(*paper), True)
                for page in range(1, len(paper[0][3]) + 1):
                    self.assertIs(holds(*paper_ends(made, size, page)), True)
                many += 1
        self.assertGreater(many, 50)


class Apart(PaperCase):
    def test_each_kind_of_size(self):
        when = [[("when", kind), para("b ~m"), ("done",)] for kind in ("plain", "screen", "pages")]
        for more, size, place in zip(when, (("plain",), ("screen", 24), ("pages", 24, 10)), ((1, 3), (1, 4), (1, 5))):
            one, other = document(para("a @m"), para("c")), document(para("a @m"), para("c"), *more)
            self.assertEqual(apart(one, other), (size,) + place)
            for first, second in ((one, other), (other, one)):
                claim = ("apart", *[(("main", str(made)),) for made in (first, second)], size) + place
                self.just(paper_apart(first, second), claim, (printed(first, size).rounds, printed(second, size).rounds))

    def test_of_several_texts(self):
        other = Document((MADE.texts[0], ("more", Text(MADE.texts[1][1].rows + (para("end"),)))))
        size, page, line = apart(MADE, other)
        claim = ("apart", SOURCES, tuple((name, str(text)) for name, text in other.texts), size, page, line)
        self.just(paper_apart(one=MADE, other=other), claim, (printed(MADE, size).rounds, printed(other, size).rounds))

    def test_alike_ones(self):
        self.assertIs(paper_apart(MADE, MADE), None)
        self.assertIs(paper_apart(document(para("a")), document(para("a"), BREAK)), None)

    def test_where_a_size_is_refused(self):
        rows = [head(1)] * 5 + [para("a")]
        one, other = document(*rows), document(*rows[:3], BREAK, *rows[3:])
        self.assertEqual(apart(one, other), (("pages", 24, 10), 0, 0))
        self.assertIs(paper_apart(one, other), None)
        self.assertIs(paper_apart(other, one), None)

    def test_no_document(self):
        for thing in no_documents():
            refused(self, NoDocument, "place", 0, paper_apart, thing, MADE)
            refused(self, NoDocument, "place", 0, paper_apart, thing, thing)
            refused(self, NoDocument, "place", 1, paper_apart, MADE, thing)
            refused(self, NoDocument, "place", 1, paper_apart, other=thing, one=MADE)


class Drafts(PaperCase):
    TEXT = Text((para("a b c"), head(1, "d")))
    CHANGES = (
        ("anna", ("put", 0, 1, ("x",))), ("bob", ("strike", 0, 0, 2)), ("c", ("style", 0, "s")), ("c", ("style", 0, "t")))

    def test_clashes(self):
        draft = Draft(self.TEXT, self.CHANGES)
        for one, other, row in ((0, 1, 0), (2, 3, 0)):
            self.just(paper_clash(draft, one, other), ("clash", str(self.TEXT), self.CHANGES, one, other, row), None)
        self.assertEqual(paper_clash(other=1, one=0, draft=draft), paper_clash(draft, 0, 1))
        draft.take(0)
        draft.leave(1)
        self.assertEqual(paper_clash(draft, 0, 1), paper_clash(Draft(self.TEXT, self.CHANGES), 0, 1))

    def test_what_does_not_clash(self):
        draft = Draft(self.TEXT, self.CHANGES)
        for one in range(-1, 6):
            for other in range(-1, 6):
                if (one, other) not in ((0, 1), (2, 3)):
                    refused(self, NoNumber, "place", (one, other), paper_clash, draft, one, other)
        for thing in OTHER_THINGS:
            refused(self, NoNumber, "place", (0, thing), paper_clash, draft, 0, thing)
            refused(self, NoNumber, "place", (thing, 1), paper_clash, draft, thing, 1)
        refused(self, NoNumber, "place", (0, 1), paper_clash, Draft(Text()), 0, 1)

    def test_taken(self):
        for numbers_told in ((), (0,), (1, 3), (0, 2), (2,)):
            draft = Draft(self.TEXT, self.CHANGES)
            draft.take_all(numbers_told)
            claim = ("taken", str(self.TEXT), self.CHANGES, numbers_told, str(draft.text()))
            self.just(paper_taken(draft), claim, None)
        self.assertEqual(paper_taken(draft=draft), paper_taken(draft))

    def test_taken_in_another_turn(self):
        draft = Draft(self.TEXT, self.CHANGES)
        draft.take(2)
        draft.take(0)
        self.assertEqual(paper_taken(draft)[0][3], (0, 2))

    def test_too_many(self):
        draft = Draft(Text((para("a " * 40),)), (("a", ("put", 0, 0, words("x x"))),))
        self.assertIs(holds(*paper_taken(draft)), True)
        draft.take(0)
        refused(self, TooMany, "many", 42, paper_taken, draft)

    def test_by_chance(self):
        for number in range(150):
            text = changing.random_text(number, rows=3 + number % 20, long=5)
            changes = changing.random_changes(number, text.rows)
            draft = Draft(text, changes)
            draft.take_all(tuple(changing.together(changing.random.Random(number), changes)))
            self.assertIs(holds(*paper_taken(draft)), True)
            for one, other, _ in draft.clashes():
                self.assertIs(holds(*paper_clash(draft, one, other)), True)


class Interface(unittest.TestCase):
    def test_defined_there(self):
        for name in "number mark printed ends stands sign apart clash taken".split():
            self.assertEqual(getattr(papers, "paper_" + name).__module__, "papertongue.papers")


if __name__ == "__main__":
    unittest.main()
