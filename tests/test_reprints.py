"""Point 20: printed anew."""

import unittest

from papertongue import reprints
from papertongue.documents import Document
from papertongue.drafts import Draft
from papertongue.errors import NoDocument, NoPrinting, TooTall
from papertongue.printing import Printing, as_plain, on_pages, on_screen, printed
from papertongue.reprints import reprinted
from papertongue.texts import Text

from helper import NUMBERS, OTHER_THINGS, document, figure, head, num, para, refused
from randoms import random_document

BREAK = ("break",)
SIZES = [("plain",), ("screen", 24), ("screen", 40), ("pages", 24, 10), ("pages", 40, 24), ("pages", 31, 17)]


def pages(*words):
    """A document of a page for each of these words."""
    rows = []
    for word in words:
        rows += [para(word), BREAK]
    return document(*rows)


class Told(unittest.TestCase):
    def anew(self, elder, newer, numbers, size=("pages", 24, 10)):
        """See that just these pages are told."""
        made = reprinted(printed(elder, size), newer)
        self.assertIs(type(made), tuple)
        printing, told = made
        self.assertIs(type(printing), Printing)
        self.assertEqual(printing, printed(newer, size))
        self.assertEqual((printing.rounds, printing.ends), (printed(newer, size).rounds, printed(newer, size).ends))
        self.assertEqual(told, numbers)
        return printing

    def test_the_same_document(self):
        for size in SIZES:
            self.anew(pages("a", "b"), pages("a", "b"), (), size)
            self.anew(document(), document(), (), size)

    def test_one_page_otherwise(self):
        self.anew(pages("a", "b", "c"), pages("a", "x", "c"), (2,))
        self.anew(pages("a", "b", "c"), pages("x", "b", "y"), (1, 3))
        self.anew(pages("a", "b"), pages("x", "y"), (1, 2))

    def test_longer_and_shorter_ones(self):
        self.anew(pages("a", "b"), pages("a", "b", "c", "d"), (3, 4))
        self.anew(pages("a", "b", "c"), pages("a", "b"), ())
        self.anew(pages("a", "b", "c"), pages("x", "b"), (1,))
        self.anew(pages("a"), pages("x", "b"), (1, 2))

    def test_without_lines(self):
        for size in SIZES:
            many = 2 if size[0] == "pages" else 1
            self.anew(document(), pages("a", "b"), tuple(range(1, many + 1)), size)
            self.anew(pages("a", "b"), document(), (), size)

    def test_screens_and_plain_texts_have_one_page(self):
        for size in SIZES[:3]:
            self.anew(pages("a", "b", "c"), pages("a", "b", "x"), (1,), size)
            self.anew(pages("a", "b", "c"), pages("a", "b"), (1,), size)

    def test_a_row_that_moves_all_behind_it(self):
        rows = [num(1, "a")] * 20
        self.anew(document(*rows), document(*rows, num(1, "a")), (3,))
        self.anew(document(*rows), document(para("x"), *rows), (1, 2, 3))

    def test_numbers_that_change_on_a_page_ahead(self):
        elder = document(para("~m"), BREAK, para("b"), BREAK, para("@m c"))
        newer = document(para("~m"), BREAK, para("b"), BREAK, para("b"), BREAK, para("@m c"))
        self.anew(elder, newer, (1, 3, 4))

    def test_rows_that_nothing_shows(self):
        self.anew(pages("a", "b"), document(para("a"), BREAK, para("@m"), BREAK, para("b")), ())
        self.anew(pages("a"), document(para("a"), ("when", "plain"), para("b"), ("done",)), ())

    def test_a_top_alone(self):
        elder = document(head(1, "one"), para("a"), BREAK, para("b"))
        newer = document(head(1, "two"), para("a"), BREAK, para("b"))
        self.anew(elder, newer, (1, 2))

    def test_a_chain_of_several(self):
        chain = [pages("a"), pages("a", "b"), pages("x", "b"), document(), pages("x", "c"), pages("x", "c")]
        made = printed(chain[0], ("pages", 30, 12))
        told = []
        for newer in chain[1:]:
            made, numbers = reprinted(made, newer)
            self.assertEqual(made, printed(newer, ("pages", 30, 12)))
            told.append(numbers)
        self.assertEqual(told, [(2,), (1,), (), (1, 2), ()])

    def test_elder_ones_stay_as_they_were(self):
        elder = on_pages(pages("a", "b"))
        before = (elder.size, elder.pages, elder.rounds, elder.ends)
        reprinted(elder, pages("x"))
        self.assertEqual((elder.size, elder.pages, elder.rounds, elder.ends), before)

    def test_by_chance(self):
        many = 0
        for number in range(40):
            elder = random_document(number, rows=12, long=10)
            draft = Draft(elder.texts[-1][1])
            others = [elder, random_document(number + 1, rows=12, long=10), self.without(draft.elder(), elder)]
            for size in SIZES:
                for newer in others:
                    many += self.look_at(elder, newer, size)
        self.assertGreater(many, 300)

    def without(self, text, elder):
        """The document with a row more at its end."""
        return Document(elder.texts[:-1] + ((elder.texts[-1][0], Text(text.rows + (para("more"),))),))

    def look_at(self, elder, newer, size):
        """All pages that aren't told are as they were, all others aren't."""
        try:
            before, after = printed(elder, size), printed(newer, size)
        except TooTall:
            return 0
        made, numbers = reprinted(before, newer)
        self.assertEqual(made, after)
        self.assertEqual(numbers, tuple(sorted(numbers)))
        for number, page in enumerate(after.pages, 1):
            is_same = number <= len(before.pages) and before.pages[number - 1] == page
            self.assertEqual(number in numbers, not is_same)
        return 1


class Refused(unittest.TestCase):
    def test_no_printing(self):
        for thing in [*OTHER_THINGS, *NUMBERS, "", (), pages("a"), on_pages(pages("a")).pages]:
            if type(thing) is not Printing:
                told = refused(self, NoPrinting, "printing", thing, reprinted, thing, pages("a"))
                self.assertIs(told.printing, thing)
                refused(self, NoPrinting, "printing", thing, reprinted, thing, None)
                refused(self, NoPrinting, "printing", thing, reprinted, document=pages("a"), printing=thing)

    def test_no_document(self):
        for made in (as_plain(pages("a")), on_screen(pages("a")), on_pages(pages("a"))):
            for thing in [*OTHER_THINGS, *NUMBERS, "", (), made, Text((BREAK,)), pages("a").texts]:
                if type(thing) is not Document:
                    refused(self, NoDocument, "place", None, reprinted, made, thing)
                    refused(self, NoDocument, "place", None, reprinted, document=thing, printing=made)

    def test_too_tall(self):
        tall = document(para("x"), *[head(1)] * 13, figure(6))
        refused(self, TooTall, "row", 1, reprinted, printed(pages("a"), ("pages", 24, 10)), tall)
        self.assertEqual(reprinted(on_screen(pages("a")), tall)[1], (1,))

    def test_defined_there(self):
        self.assertEqual(reprints.reprinted.__module__, "papertongue.reprints")


if __name__ == "__main__":
    unittest.main()
