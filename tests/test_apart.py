"""Point 21: where two documents part in print."""

import unittest

from papertongue import apart as module
from papertongue.apart import apart
from papertongue.documents import Document
from papertongue.errors import NoDocument, TooTall
from papertongue.printing import as_plain, printed
from papertongue.texts import Text

from helper import NUMBERS, OTHER_THINGS, dot, document, figure, head, num, para, refused, table
from randoms import random_document

BREAK = ("break",)
DONE = ("done",)


def all_sizes():
    """All SIZEs in their turn."""
    found = [("plain",)] + [("screen", width) for width in range(24, 41)]
    return found + [("pages", width, height) for width in range(24, 41) for height in range(10, 25)]


def told(made, size):
    """The pages of a printing, or the row by which it is refused."""
    try:
        return printed(made, size).pages
    except TooTall as error:
        return error.row


def expected(one, other):
    """What `apart` tells, by all printings."""
    for size in all_sizes():
        pages, others = told(one, size), told(other, size)
        if pages == others:
            continue
        if isinstance(pages, int) or isinstance(others, int):
            return (size, 0, 0)
        flat = [
            {(at, number): line for at, page in enumerate(lines, 1) for number, line in enumerate(page, 1)}
            for lines in (pages, others)]
        return (size,) + min(at for at in flat[0].keys() | flat[1].keys() if flat[0].get(at) != flat[1].get(at))
    return None


def when(kind, *rows):
    return [("when", kind), *rows, DONE]


class ApartCase(unittest.TestCase):
    def parts(self, one, other, place):
        """See that these part there, whichever comes first."""
        one, other = [made if isinstance(made, Document) else document(*made) for made in (one, other)]
        self.assertEqual(apart(one, other), place)
        self.assertEqual(apart(other, one), place)
        self.assertIs(apart(one, one), None)


class AlikeOnes(ApartCase):
    def test_alike_rows(self):
        self.parts([para("a")], [para("a")], None)
        self.parts([], [], None)
        one = Document((("a", Text((("include", "b"), para("x")))), ("b", Text((head(1, "y"),)))))
        self.parts(one, [head(1, "y"), para("x")], None)

    def test_rows_that_show_nothing(self):
        self.parts([para("a")], [para("a"), para(), BREAK], None)
        self.parts([para("a")], [("style", "s", 1, 1, 1, "left"), para("a"), ("index",), ("contents", 1)], None)
        self.parts([], [para("@a"), BREAK, ("when", "pages"), DONE], None)

    def test_other_names(self):
        one = [("style", "a", 2, 0, 1, "left"), head(1, "A @x"), para("#x ~x &x", "a")]
        other = [("style", "bb", 2, 0, 1, "left"), head(1, "A @yy"), para("#yy ~yy &yy", "bb")]
        self.parts(one, other, None)

    def test_rows_that_are_shown_alike(self):
        self.parts([para("1 @a")], [para("~a @a")], None)
        self.parts([para("w")], [para("^w")], None)
        self.parts(when("pages", para("a")) + when("screen", para("a")) + when("plain", para("a")), [para("a")], None)

    def test_tall_ones_by_the_same_row(self):
        tall = [head(1)] * 24
        self.parts([*tall, para("a"), para()], [*tall, para("a")], None)


class Plain(ApartCase):
    def test_lines(self):
        self.parts([para("a")], [para("b")], (("plain",), 1, 1))
        self.parts([para("a"), para("b"), para("c")], [para("a"), para("b"), para("d")], (("plain",), 1, 3))
        self.parts([para("a b")], [para("a"), para("b")], (("plain",), 1, 1))

    def test_a_line_that_one_has_not(self):
        self.parts([para("a")], [para("a"), para("b")], (("plain",), 1, 2))
        self.parts([para("a")], [], (("plain",), 1, 1))

    def test_by_a_condition(self):
        self.parts([para("a"), *when("plain", para("b"))], [para("a")], (("plain",), 1, 2))
        self.parts([para("a"), *when("plain", para("b"))], [para("a"), *when("plain", para("c"))], (("plain",), 1, 2))


class Screens(ApartCase):
    def test_all(self):
        self.parts([("style", "s", 1, 0, 0, "left"), para("a", "s")], [para("a")], (("screen", 24), 1, 1))
        self.parts([para("a"), *when("screen", para("b"))], [para("a")], (("screen", 24), 1, 2))
        self.parts(when("screen", para("b")), [], (("screen", 24), 1, 1))

    def test_from_one_width_on(self):
        # The two indents part only where the words have room behind the lesser, and none behind the greater.
        styles = [("style", "s", 0, 0, 0, "right"), ("style", "s", 6, 0, 0, "right")]
        for long, place in ((18, None), (19, 24), (24, 24), (25, 25)):
            words = " ".join(["a" * (long - 13), "b" * 12])
            self.parts([styles[0], para(words, "s")], [styles[1], para(words, "s")],
                       place and (("screen", place), 1, 1))

    def test_in_no_width_that_there_is(self):
        # Two columns have 19 signs each where the WIDTH is the greatest, and would have 20 in a greater one.
        for long, place in ((9, None), (8, (("screen", 39), 1, 2)), (1, (("screen", 25), 1, 2))):
            one, other = "a" * 10, "b" * long
            self.parts(when("screen", *table(2, "", [f"{one} {other}"])),
                       when("screen", *table(2, "", [one], [other])), place)

    def test_of_one_width_alone(self):
        styles = [("style", "s", 0, 0, 0, "right"), ("style", "s", 1, 0, 0, "right")]
        for long in (24, 25):
            words = " ".join(["a" * (long - 13), "b" * 12])
            self.parts([styles[0], para(words, "s")], [styles[1], para(words, "s")], (("screen", long), 1, 1))

    def test_the_first_line(self):
        style = ("style", "s", 0, 0, 1, "left")
        self.parts([para("a"), para("b")], [("style", "s", 0, 0, 2, "left"), para("a"), para("b", "s")],
                   (("screen", 24), 1, 3))
        self.parts([style, para("a", "s")], [para("a")], None)


class Pages(ApartCase):
    def test_breaks(self):
        self.parts([para("a"), BREAK, para("b")], [para("a"), para("b")], (("pages", 24, 10), 1, 3))

    def test_a_page_that_one_has_not(self):
        self.parts([dot(1)] * 9 + when("pages", dot(1)), [dot(1)] * 9, (("pages", 24, 10), 2, 1))
        self.parts(when("pages", para("a")), [], (("pages", 24, 10), 1, 1))

    def test_a_later_height(self):
        one = [dot(1)] * 9 + [BREAK, dot(1), BREAK] + [dot(1)] * 3
        other = [dot(1)] * 9 + [dot(1), BREAK] + [dot(1)] * 3
        self.parts(one, other, (("pages", 24, 11), 1, 11))

    def test_by_a_condition(self):
        self.parts([para("a"), *when("pages", para("b"))], [para("a")], (("pages", 24, 10), 1, 3))

    def test_tops(self):
        self.parts([para("a"), *when("plain", head(1, "b"))], [para("a")], (("plain",), 1, 2))
        self.parts([head(1, "a"), BREAK, para("x")], [head(1, "a"), para("x")], (("pages", 24, 10), 1, 3))


class TallOnes(ApartCase):
    def test_in_one(self):
        # Heads hang together: two lines each but for the first, and the line behind them.
        tall = [head(1)] * 5 + [para("a")]
        self.parts(tall, tall[:4] + [BREAK] + tall[4:], (("pages", 24, 10), 0, 0))

    def test_in_both_by_unlike_rows(self):
        tall = [head(1)] * 5 + [para("a")]
        self.parts([para(), *tall], tall, (("pages", 24, 10), 0, 0))

    def test_in_both_by_the_same_row(self):
        rows = [figure(6, "a b c d e f g h " * 5), para("x")]
        self.parts([*rows, para()], rows, None)

    def test_in_all_pages_that_there_are(self):
        # Of 24 lines, so that a page would need one more than any has.
        tall = [*[head(1)] * 12, dot(1)]
        self.assertEqual(told(document(*tall), ("pages", 40, 24)), 0)
        self.parts([*tall, *when("pages", para("x"))], tall, None)
        self.parts([*tall[2:], *when("pages", para("x"))], tall[2:], (("pages", 24, 21), 2, 1))

    def test_by_the_same_row_in_low_pages_alone(self):
        tall = [head(1)] * 5 + [para("a")]
        # Pages of 10 and 11 lines have no room for these, those of 12 and 13 for nothing more.
        self.parts([*tall, BREAK, para("b")], [*tall, para("b")], (("pages", 24, 14), 1, 13))
        self.assertEqual(told(document(*tall), ("pages", 24, 11)), 0)


class Refused(unittest.TestCase):
    def test_no_document(self):
        made = document(para("a"))
        for thing in [*OTHER_THINGS, *NUMBERS, "", (), Text((BREAK,)), as_plain(made), made.texts]:
            if type(thing) is not Document:
                refused(self, NoDocument, "place", 0, apart, thing, made)
                refused(self, NoDocument, "place", 1, apart, made, thing)
                refused(self, NoDocument, "place", 0, apart, thing, thing)
                refused(self, NoDocument, "place", 0, apart, other=made, one=thing)
                refused(self, NoDocument, "place", 1, apart, other=thing, one=made)

    def test_defined_there(self):
        self.assertEqual(module.apart.__module__, "papertongue.apart")

    def test_documents_stay(self):
        one, other = document(para("a ~m"), head(1, "@m")), document(para("a ~m"), head(1, "@m b"))
        before = (one.rows, other.rows, one.texts, other.texts)
        apart(one, other)
        self.assertEqual((one.rows, other.rows, one.texts, other.texts), before)


class AsAllPrintings(ApartCase):
    def test_by_chance(self):
        seen = set()
        for number in range(45):
            made = random_document(number, rows=2 + number % 9, long=6)
            for other in self.others(made, number):
                place = expected(made, other)
                self.parts(made, other, place)
                seen.add(place and place[0][0])
        self.assertEqual(seen, {None, "plain", "screen", "pages"})

    def others(self, made, number):
        """Documents that are but a little otherwise."""
        rows = made.rows
        yield self.document_or(made, rows + (BREAK, para("end")))
        for kind in ("pages", "screen"):
            yield self.document_or(made, rows + (("when", kind), para("more"), DONE))
        depth = 0
        for at in range(1, len(rows)):
            depth += {"table": 1, "close": -1}.get(rows[at - 1][0], 0)
            if depth == 0 and rows[at][0] not in ("style", "counter") and at % 4 == number % 4:
                yield self.document_or(made, rows[:at] + (BREAK,) + rows[at:])

    def document_or(self, made, rows):
        return document(*rows) if len(rows) <= 80 else made


if __name__ == "__main__":
    unittest.main()
