"""Points 11 and 12: what each TOKEN shows, where a mark stands, how words are laid and cut."""

import unittest

from papertongue.places import shown
from papertongue.printing import as_plain, on_pages, on_screen

from helper import cell, document, dot, figure, head, num, para, table

WHEN_PLAIN = ("when", "plain")
DONE = ("done",)


def screen(*rows, width=24):
    """The lines of a screen."""
    pages = on_screen(document(*rows), width=width).pages
    return list(pages[0]) if pages else []


def plain(*rows):
    """The lines of a plain text."""
    pages = as_plain(document(*rows)).pages
    return list(pages[0]) if pages else []


class EachToken(unittest.TestCase):
    def test_words_and_words_for_the_index(self):
        self.assertEqual(screen(para("a ^b ^C1., d")), ["a b C1., d"])

    def test_numbers(self):
        rows = [head(1, "@a x"), head(2, "@b y"), para("#a #b #c @c"), num(1, "@d"), para("#d #e"), dot(1, "@e")]
        self.assertEqual(plain(*rows), ["1 x", "1.1 y", "1 1.1 1.1", "1.", "1 1.1", "-"])

    def test_a_number_of_nothing(self):
        self.assertEqual(plain(para("#a @a x")), ["- x"])

    def test_numbers_in_captions_and_heads(self):
        rows = [head(1, "#f @h"), figure(1, "see #t @f"), *table(1, "as #h @t", ["#f"])]
        self.assertEqual(plain(*rows), ["1 1", "Figure 1. see 1", "Table 1. as 1", "1"])

    def test_numbers_of_what_is_hidden(self):
        rows = [("when", "pages"), head(1, "@a"), DONE, para("#a ~a &a")]
        self.assertEqual(plain(*rows), ["1 - -"])

    def test_notes(self):
        rows = [("counter", "foot", "a", 0), ("counter", "end", "A", 1), para("a { b c } d [ e ] f")]
        self.assertEqual(screen(*rows), ["a (a) d [0.A] f", "", "[0.A] e", "-----", "(a) b c"])
        self.assertEqual(plain(*rows), ["a (a) d [0.A] f", "(a) b c", "[0.A] e"])

    def test_notes_without_words(self):
        self.assertEqual(screen(para("{ } [ ]")), ["(1) [1]", "", "[1]", "-----", "(1)"])

    def test_marks_show_none(self):
        self.assertEqual(screen(para("@a x @b @c y @d")), ["x y"])

    def test_places_on_pages_are_pages(self):
        made = on_pages(document(para("~a ~b ~c"), ("break",), para("@a x { @b y } [ @c z ]")), height=10)
        self.assertEqual(made.pages[0][1:], ("2 2 2",))

    def test_places_elsewhere_are_lines(self):
        rows = [para("~a ~b ~c"), head(1, "@a"), para("x { @b y } [ @c z ]")]
        self.assertEqual(screen(*rows), ["3 9 7", "", "1", "", "x (1) [1]", "", "[1] z", "-----", "(1) y"])
        self.assertEqual(plain(*rows), ["2 4 5", "1", "x (1) [1]", "(1) y", "[1] z"])


class Sides(unittest.TestCase):
    def test_ahead_behind_and_nowhere(self):
        rows = [para("&a &b &c x @a"), para("@b &a &b @c"), para("@d"), para("&c &d")]
        self.assertEqual(plain(*rows), ["below below below x", "above above", "above -"])

    def test_nowhere_takes_one_sign(self):
        self.assertEqual(screen(para("&d x &d y"), para("@d"), dot(1, "&d z")), ["- x - y", "-    - z"])
        self.assertEqual(screen(("when", "plain"), para("@d x"), DONE, para("&d x")), ["- x"])

    def test_a_cut_word_stands_where_its_first_sign_does(self):
        rows = table(4, "", ["@a abcdefghijkl", "", "x &a"], ["@b x", "&c", "abcdefghi @c"], ["", "", "&b"])
        self.assertEqual(screen(*rows)[1:], [
            "abcde       x", "fghij       above", "kl", "x     below abcde", "            fghi", "            above"])

    def test_the_word_itself_is_not_ahead(self):
        self.assertEqual(plain(para("@a &a")), ["below"])
        self.assertEqual(plain(para("&a @a")), ["below"])

    def test_by_columns_of_one_line(self):
        self.assertEqual(plain(para("&a @a x &a")), ["below x above"])

    def test_by_lines_ahead_of_columns(self):
        self.assertEqual(screen(para("@a abcdefghijkl mnopqrstuvwx &a")), ["abcdefghijkl", "mnopqrstuvwx above"])

    def test_a_note_is_above_or_below_as_it_is_there(self):
        rows = [para("{ @a x }"), para("&a")]
        self.assertEqual(plain(*rows), ["(1)", "(1) x", "above"])
        self.assertEqual(screen(*rows), ["(1)", "", "below", "-----", "(1) x"])

    def test_pages_ahead_of_lines(self):
        rows = [para("&a"), ("break",), para("@a &b"), ("break",), para("x x &a @b y")]
        made = on_pages(document(*rows), width=24, height=10)
        self.assertEqual([page[1:] for page in made.pages], [("below",), ("below",), ("x x above y",)])

    def test_cells_in_one_line(self):
        rows = table(2, "", ["@a x &b", "@b y &a"], ["&c", "z"], ["&d", "@c @d"])
        self.assertEqual(screen(*rows, width=40)[1:], ["x below             y above", "-                   z", "-"])

    def test_a_floating_figure(self):
        rows = [para("a"), figure(6, "@f x"), para("&f ~f"), para("a { b }"), ("break",), para("&f")]
        self.assertEqual(plain(*rows), ["a", "Figure 1. x", "above 2", "a (1)", "(1) b", "above"])
        made = on_pages(document(para("a"), figure(6), para("a"), figure(6, "@f x"), para("&f ~f")), height=15)
        self.assertEqual(made.pages[0][-1], "below 2")
        self.assertEqual(made.pages[1][-1], "Figure 2. x")


class WhereMarksStand(unittest.TestCase):
    def lines(self, *rows, width=24):
        """Of each mark a to z that there is the line where it stands on a screen."""
        made = on_screen(document(*rows), width=width)
        names = sorted(made.last_round.showing.mark_numbers)
        return {name: made.stands(name) for name in names}

    def test_where_the_first_word_behind_stands(self):
        long = "abcdefghijkl mnopqrstuvwx"
        self.assertEqual(self.lines(para("@a @b " + long)), {"a": 1, "b": 1})
        self.assertEqual(self.lines(para("abcdefghijkl @a @b mnopqrstuvwx")), {"a": 2, "b": 2})

    def test_at_the_end_where_the_last_one_ahead_stands(self):
        self.assertEqual(self.lines(para("abcdefghijkl @b mnopqrstuvwx @a")), {"a": 2, "b": 2})

    def test_alone_in_a_row(self):
        self.assertEqual(self.lines(para("x"), para("@a"), para("@b @c")), {"a": None, "b": None, "c": None})

    def test_alone_behind_what_stands_ahead_of_words(self):
        rows = [head(1, "@a"), dot(1, "@b"), num(1, "@c"), figure(1, "@d"), *table(1, "@e", ["@f"]), para("x { @g } [ @h ]")]
        self.assertEqual(self.lines(*rows), {"a": 1, "b": 2, "c": 3, "d": 6, "e": 8, "f": None, "g": 15, "h": 13})

    def test_a_call_is_a_word_and_what_is_within_none_of_the_row(self):
        self.assertEqual(self.lines(para("x"), para("@a { y }")), {"a": 3})
        self.assertEqual(self.lines(para("x"), para("{ y } @a")), {"a": 3})
        self.assertEqual(self.lines(para("x"), para("{ y @a } z")), {"a": 5})
        self.assertEqual(self.lines(para("{ @a } z [ @b y ] @c")), {"a": 5, "b": 3, "c": 1})

    def test_other_marks_are_no_words(self):
        self.assertEqual(self.lines(para("abcdefghijkl @a @b { c } @c")), {"a": 1, "b": 1, "c": 1})

    def test_within_its_cell(self):
        rows = table(2, "x @a", ["@b", "y"], ["y @c", "@d z"])
        self.assertEqual(self.lines(*rows), {"a": 1, "b": None, "c": 3, "d": 3})

    def test_in_a_row_that_is_not_shown(self):
        self.assertEqual(self.lines(WHEN_PLAIN, para("@a x"), head(1, "@b"), DONE), {"a": None, "b": None})

    def test_where_the_word_has_its_first_sign(self):
        rows = table(4, "", ["x", "abcdefghijkl @a"], ["y"])
        self.assertEqual(screen(*rows), ["Table 1.", "x     abcde", "      fghij", "      kl", "y"])
        self.assertEqual(self.lines(*rows), {"a": 2})

    def test_the_last_word_ahead_in_columns(self):
        made = document(figure(1, "@a"), para("x y"), num(1, "@b"), *table(1, "x @c", ["y"]))
        self.assertEqual(on_screen(made).last_round.mark_place("a"), 2)
        self.assertEqual(plain(figure(1, "@a"), para("&a ~a")), ["Figure 1.", "above 1"])


class Laid(unittest.TestCase):
    def test_as_many_as_have_room(self):
        self.assertEqual(screen(para("abcdefghijkl mnopqrstuvw x y")), ["abcdefghijkl mnopqrstuvw", "x y"])
        self.assertEqual(screen(para("abcdefghijkl mnopqrstuv x y")), ["abcdefghijkl mnopqrstuv", "x y"])
        self.assertEqual(screen(para("abcdefghijkl mnopqrstu v w")), ["abcdefghijkl mnopqrstu v", "w"])

    def test_words_of_just_room_one_more_and_many_times(self):
        rows = table(4, "", ["abcde f", "abcdef g", "abcdefghijkl m n", "abcdefghij k"])
        self.assertEqual(screen(*rows)[1:], [
            "abcde abcde abcde abcde", "f     f g   fghij fghij", "            kl m  k", "            n"])

    def test_behind_a_word_a_long_one_begins_the_next_line(self):
        rows = table(4, "", ["a bcdefgh", "a b cdefghijklm n"])
        self.assertEqual(screen(*rows)[1:], ["a     a b", "bcdef cdefg", "gh    hijkl", "      m n"])

    def test_the_last_piece_fills_the_line(self):
        self.assertEqual(screen(*table(4, "", ["abcdefghij"], ["k"]))[1:], ["abcde", "fghij", "k"])

    def test_cut_words_of_all_kinds(self):
        rows = [head(1), head(2), head(3, "@h"), *table(4, "", ["^abcdefg &h #h"], ["x"])]
        made = on_screen(document(*rows), width=24)
        self.assertEqual(made.pages[0][7:], ("abcde", "fg", "above", "1.1.1", "x"))
        self.assertEqual(shown(made, 5, 0), ((1, 8, 0, 5), (1, 9, 0, 2)))

    def test_each_room_of_first_and_further_lines(self):
        style = ("style", "s", 6, 4, 0, "left")
        self.assertEqual(screen(style, para("abcdefghijkl mn opqrst u vwxyz", "s")), [
            "          abcdefghijkl", "      mn opqrst u vwxyz"])

    def test_a_place_of_many_signs_in_a_narrow_cell(self):
        rows = [*table(4, "", ["~a"]), para("x"), para("@a x")]
        self.assertEqual(screen(*rows)[:2], ["Table 1.", "6"])


if __name__ == "__main__":
    unittest.main()
