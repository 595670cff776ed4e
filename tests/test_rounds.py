"""Point 17: rounds and their sizes, until none wants more."""

import unittest

from papertongue.printing import as_plain, on_pages, on_screen

from helper import document, dot, figure, head, para, table

BREAK = ("break",)
LINE = "abcdefghijkl"
FULL = "abcdefghijkl mnopqrstuvw"
# On its page this makes 3 lines where the place has one sign, else 4: then the figure behind it, which is to be of 4
# lines, has no room any more, and what is behind this has.
TURNING = para(f"{FULL} {FULL} {LINE} mnopqrstu ~m")


def screen(*rows):
    return on_screen(document(*rows), width=24)


def pages(*rows, height=10):
    return on_pages(document(*rows), width=24, height=height)


class Sizes(unittest.TestCase):
    def test_without_any_there_is_one_round(self):
        for made in (screen(para("x")), screen(), pages(para("x")), as_plain(document(para("x")))):
            self.assertEqual(made.rounds, ((),))

    def test_the_first_round_has_ones(self):
        self.assertEqual(screen(para("~a ~a @a x"), ("index",), dot(1, "^x ^y")).rounds, ((1, 1, 1, 1),))

    def test_places_in_their_turn_and_then_the_index(self):
        rows = [("index",), dot(1, "~f { ~n ~a } ~z"), dot(1, "^b ^a"), *[dot(1)] * 3]
        rows += [dot(1, "@z y"), dot(1, "@a y"), dot(1, "@f y"), para("@n")]
        made = as_plain(document(*rows))
        self.assertEqual(made.pages[0][:5], ("a 5", "b 5", "- 11 (1) 9", "(1) - 10", "- b a"))
        self.assertEqual(made.rounds, ((1, 1, 1, 1, 1, 1), (2, 1, 2, 1, 1, 1)))

    def test_those_of_hidden_rows_have_none(self):
        made = screen(("when", "plain"), para("~a @a x ^y"), ("done",), ("index",), para("~b @b x"))
        self.assertEqual(made.rounds, ((1,),))

    def test_entries_have_none_where_the_index_is_hidden(self):
        rows = [("when", "plain"), ("index",), ("done",), para("^a ^b")]
        self.assertEqual(screen(*rows).rounds, ((),))
        self.assertEqual(as_plain(document(*rows)).rounds, ((1, 1),))

    def test_contents_and_sides_have_none(self):
        made = pages(("contents", 1), ("figures",), *[head(1), figure(1), para("@a &a"), BREAK][:3])
        self.assertEqual(made.rounds, ((),))


class Rounds(unittest.TestCase):
    def test_as_many_signs_as_the_place_has(self):
        rows = [para("~a"), *[BREAK, para("x")] * 9, para("@a x")]
        self.assertEqual(pages(*rows).rounds, ((1,), (2,)))
        self.assertEqual(screen(*rows).rounds, ((1,), (2,)))
        self.assertEqual(as_plain(document(*rows)).rounds, ((1,), (2,)))
        self.assertEqual(pages(*rows[:17], *rows[-1:]).rounds, ((1,),))

    def test_three(self):
        # Round 1: `a` stands in line 9 and `b` in line 10. By the two signs of this the first row gets a line more,
        # so `a` stands in line 10; and by its own two signs the second row gets one more.
        rows = [dot(1, f"~b {LINE} abcd"), dot(1, f"~a {LINE} abcd")] + [dot(1)] * 6 + [dot(1, "@a x"), dot(1, "@b x")]
        made = screen(*rows)
        self.assertEqual(made.rounds, ((1, 1), (2, 1), (2, 2)))
        self.assertEqual(made.pages[0][:4], ("-    12 abcdefghijkl", "     abcd", "-    11 abcdefghijkl", "     abcd"))

    def test_the_index_wants_lines(self):
        made = screen(("index",), *[dot(1, "^abcdefghijkl")] * 12)
        # By the first round the words stand in lines 2 to 13, by the second one in lines 4 to 15.
        self.assertEqual(made.rounds, ((1,), (3,)))
        self.assertEqual(made.pages[0][:4], (
            "abcdefghijkl 4, 5, 6, 7,", "  8, 9, 10, 11, 12, 13,", "  14, 15", "-    abcdefghijkl"))

    def test_lines_of_the_index_move_places(self):
        made = screen(("index",), dot(1, "~a"), *[dot(1, "^abcdefghijkl")] * 7, dot(1, "@a x"))
        self.assertEqual(made.rounds, ((1, 1), (2, 2)))
        self.assertEqual(made.pages[0][:3], ("abcdefghijkl 4, 5, 6, 7,", "  8, 9, 10", "-    11"))

    def test_in_narrow_cells(self):
        # In five signs: of the last cell the two signs of the place make another line.
        rows = [*table(4, "", ["~a x"], ["~b xx"], ["~b xxx"]), *[para("x")] * 4, para("@a x @b y")]
        made = screen(*rows)
        self.assertEqual(made.pages[0][1:5], ("15 x", "15 xx", "15", "xxx"))
        self.assertEqual(made.rounds, ((1, 1, 1), (2, 2, 2)))


class NeverLess(unittest.TestCase):
    def test_a_place_keeps_its_size(self):
        made = pages(*[para("x"), BREAK] * 8, TURNING, figure(4), para("@m x"))
        self.assertEqual(made.rounds, ((1,), (2,)))
        self.assertEqual(made.pages[8][1:], (FULL, FULL, LINE + " mnopqrstu", ".9", "", "x"))
        self.assertEqual(made.pages[9][1:], (":" * 24,) * 4 + ("Figure 1.",))
        self.assertEqual(made.stands("m"), 9)

    def test_an_entry_keeps_its_size(self):
        # On page 10 the last of the words makes the entry a second line, on page 9 none.
        rows = [para("^abcdefghij"), BREAK] * 4 + [para("x"), BREAK] * 4
        made = pages(*rows, TURNING, figure(4), para("@m ^abcdefghij"), BREAK, ("index",), dot(1))
        self.assertEqual(made.rounds, ((1, 1), (2, 2)))
        self.assertEqual(made.pages[9][6:], ("", "abcdefghij 1, 2, 3, 4, 9", "", "-"))

    def test_in_all_sizes(self):
        made = [para("x"), BREAK] * 8 + [TURNING, figure(4), para("@m x"), ("index",), para("^a ~m")]
        for height in range(10, 25):
            rounds = pages(*made, height=height).rounds
            for one, other in zip(rounds, rounds[1:]):
                self.assertNotEqual(one, other)
                self.assertTrue(all(a <= b for a, b in zip(one, other)))


class PlainText(unittest.TestCase):
    def test_places_in_rounds(self):
        made = as_plain(document(para("~a ~b ~a"), *[para("x")] * 8, para("@a x { @b y }")))
        self.assertEqual(made.rounds, ((1, 1, 1), (2, 2, 2)))
        self.assertEqual(made.pages[0][0], "10 11 10")

    def test_entries_want_a_line(self):
        made = as_plain(document(("index",), *[para("^abcdefghijkl")] * 60))
        self.assertEqual(made.rounds, ((1,),))
        self.assertEqual(made.pages[0][0], "abcdefghijkl " + ", ".join(str(at) for at in range(2, 62)))


if __name__ == "__main__":
    unittest.main()
