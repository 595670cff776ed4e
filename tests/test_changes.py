"""Point 22: what a change may be, and which changes clash."""

import itertools
import unittest

from papertongue.changes import clash_row
from papertongue.drafts import Draft
from papertongue.errors import NoChanges
from papertongue.texts import Text

import changing
from helper import NUMBERS, OTHER_THINGS, cell, dot, figure, head, num, para, refused, table, words

# Of each kind of ROW one, and what its number is.
ROWS = (
    ("style", "s", 0, 0, 0, "left"),        # 0
    ("counter", "item", "1", 0),            # 1
    head(1, "a @b #c"),                     # 2
    para("a { b c } d [ e ] f"),            # 3
    dot(1, "a b"),                          # 4
    num(2),                                 # 5
    figure(1, "a"),                         # 6
    *table(2, "cap", ["x y", ""]),          # 7 table, 8 row, 9 cell, 10 cell, 11 close
    ("contents", 1),                        # 12
    ("figures",),                           # 13
    ("index",),                             # 14
    ("endnotes",),                          # 15
    ("break",),                             # 16
    ("include", "other"),                   # 17
    ("when", "pages"),                      # 18
    para(),                                 # 19
    ("done",),                              # 20
)
TEXT = Text(ROWS)
EDITED = (2, 3, 4, 5, 9, 10, 19)
MOVING = (2, 3, 4, 5, 6, 12, 13, 16, 17, 19)
BEHIND = (-1, 2, 3, 4, 5, 6, 11, 12, 13, 14, 15, 16, 17, 18, 19, 20)
ALL = range(-3, len(ROWS) + 3)
NEW = para("new")


class ChangeCase(unittest.TestCase):
    def right(self, *changes):
        """See that each of these is a change."""
        for change in changes:
            self.assertEqual(Draft(TEXT, (("anna", change),)).changes, (("anna", change),))

    def wrong(self, *changes):
        """See that none of these is a change."""
        for change in changes:
            refused(self, NoChanges, "place", 0, Draft, TEXT, (("anna", change),))
            refused(self, NoChanges, "place", 1, Draft, TEXT, (("bob", ("cut", 3)), ("anna", change), None))

    def just(self, right, all_told):
        """See that of all these just those are changes."""
        for change in all_told:
            if change in right:
                self.right(change)
            else:
                self.wrong(change)


class Puts(ChangeCase):
    def test_rows(self):
        self.just([("put", row, 0, ("x",)) for row in EDITED], [("put", row, 0, ("x",)) for row in ALL])

    def test_gaps(self):
        for row in EDITED:
            many = len(ROWS[row][-1])
            self.just([("put", row, gap, ("x",)) for gap in range(many + 1)],
                      [("put", row, gap, ("x",)) for gap in range(-2, many + 4)])

    def test_tokens(self):
        for row in (3, 4, 9):
            self.right(*[("put", row, 0, words(told)) for told in ("a", "~b", "&b", "#b @c ^d", "a " * 40)])
            self.wrong(*[("put", row, 0, words(told)) for told in ("", "{ }", "[ a ]", "{", "}", "a { b } c", "a " * 41)])

    def test_bare_in_a_head(self):
        self.right(*[("put", 2, 1, words(told)) for told in ("a", "#b", "@c", "^d", "a b")])
        self.wrong(*[("put", 2, 1, words(told)) for told in ("", "~b", "&b", "a ~b", "{ }")])

    def test_within_a_note(self):
        self.right(*[("put", 3, gap, ("~x", "y")) for gap in (2, 3, 4, 7, 8)])

    def test_what_is_no_tokens(self):
        self.wrong(*[("put", 3, 0, thing) for thing in [*OTHER_THINGS, *NUMBERS, "a", ["a"], ("A b",), (1,), (None,)]])


class Strikes(ChangeCase):
    def test_rows(self):
        full = [row for row in EDITED if len(ROWS[row][-1]) > 0]
        self.just([("strike", row, 0, 1) for row in full], [("strike", row, 0, 1) for row in ALL])

    def test_one_at_least(self):
        self.wrong(*[("strike", 3, at, at) for at in range(11)], ("strike", 4, 1, 0), ("strike", 3, 5, 2))

    def test_spans_of_all_bounds(self):
        tokens = ROWS[3][-1]
        right = []
        for first, behind in itertools.product(range(-1, 13), repeat=2):
            if 0 <= first < behind <= len(tokens) and changing.are_in_pairs(tokens[first:behind]):
                right.append(("strike", 3, first, behind))
        self.just(right, [("strike", 3, *span) for span in itertools.product(range(-1, 13), repeat=2)])
        for span in ((0, 5), (1, 5), (2, 4), (2, 3), (0, 10), (6, 9), (1, 9), (5, 6), (9, 10)):
            self.assertIn(("strike", 3, *span), right)
        for span in ((1, 2), (0, 2), (4, 5), (1, 4), (4, 7), (6, 7), (2, 5), (3, 10)):
            self.assertNotIn(("strike", 3, *span), right)

    def test_from_one_pair_into_the_next(self):
        text = Text((para("{ a } x { b }"),))
        refused(self, NoChanges, "place", 0, Draft, text, (("a", ("strike", 0, 2, 5)),))
        self.assertEqual(len(Draft(text, (("a", ("strike", 0, 0, 7)),))), 1)


class Styles(ChangeCase):
    def test_rows(self):
        self.just([("style", 3, "s"), ("style", 19, "s")], [("style", row, "s") for row in ALL])

    def test_styles(self):
        self.right(*[("style", 3, style) for style in ("-", "a", "abcdefgh", "lost")])
        self.wrong(*[("style", 3, style) for style in ["", "A", "--", "a1", "abcdefghi", *OTHER_THINGS, *NUMBERS, ("a",)]])


class Adds(ChangeCase):
    def test_places(self):
        self.just([("add", at, NEW) for at in BEHIND], [("add", at, NEW) for at in ALL])

    def test_rows(self):
        for at, row in enumerate(ROWS):
            if at in MOVING:
                self.right(("add", -1, row), ("add", 20, row))
            else:
                self.wrong(("add", -1, row), ("add", 20, row))

    def test_what_is_no_row(self):
        rows = [(), ("para",), ["break"], "break", ("head", 4, ()), ("head", 1, ("~a",)), ("para", "-", ("{",)), None]
        self.wrong(*[("add", 3, row) for row in rows + OTHER_THINGS + NUMBERS])


class CutsAndMoves(ChangeCase):
    def test_cuts(self):
        self.just([("cut", row) for row in MOVING], [("cut", row) for row in ALL])

    def test_moves_of_rows(self):
        self.just([("move", row, -1) for row in MOVING], [("move", row, -1) for row in ALL])

    def test_moves_behind_rows(self):
        self.just([("move", 6, at) for at in BEHIND], [("move", 6, at) for at in ALL])

    def test_behind_itself(self):
        self.right(*[("move", row, row) for row in MOVING])


class WrongForms(ChangeCase):
    RIGHT = [
        ("put", 3, 0, ("x",)), ("strike", 3, 0, 1), ("style", 3, "s"), ("add", 3, NEW), ("cut", 3), ("move", 3, 4)]

    def test_more_parts_and_fewer(self):
        self.right(*self.RIGHT)
        for change in self.RIGHT:
            self.wrong(change[:-1], change + (0,), change + change[-1:], list(change), change[:1], ())

    def test_words(self):
        for change in self.RIGHT:
            for word in ["Put", "", "puts", "replace", "open", None, *OTHER_THINGS, *NUMBERS, ("put",)]:
                self.wrong((word,) + change[1:])
            self.wrong(change[1:], change[::-1])

    def test_parts_of_other_kinds(self):
        for change in self.RIGHT:
            for at in range(1, len(change)):
                for thing in OTHER_THINGS + [10 ** 30, "3", (3,), "", -2]:
                    self.wrong(change[:at] + (thing,) + change[at + 1:])

    def test_what_is_no_tuple_of_two(self):
        cut = ("cut", 3)
        for thing in [*OTHER_THINGS, *NUMBERS, (), ("anna",), ("anna", cut, cut), ["anna", cut], (cut, "anna"), cut, "ab"]:
            refused(self, NoChanges, "place", 0, Draft, TEXT, (thing,))
            refused(self, NoChanges, "place", 2, Draft, TEXT, (("a", cut), ("a", cut), thing))

    def test_hands(self):
        for hand in ["", "A", "anna1", "abcdefghi", "-", "a b", *OTHER_THINGS, *NUMBERS, ("a",)]:
            refused(self, NoChanges, "place", 0, Draft, TEXT, ((hand, ("cut", 3)),))
        self.assertEqual(len(Draft(TEXT, (("abcdefgh", ("cut", 3)),))), 1)

    def test_no_tuple_and_too_many(self):
        for thing in [*OTHER_THINGS, *NUMBERS, "", "a", [("anna", ("cut", 3))]]:
            refused(self, NoChanges, "place", None, Draft, TEXT, thing)
            refused(self, NoChanges, "place", None, Draft, text=TEXT, changes=thing)
        one = ("anna", ("cut", 3))
        self.assertEqual(len(Draft(TEXT, (one,) * 24)), 24)
        refused(self, NoChanges, "place", None, Draft, TEXT, (one,) * 25)
        refused(self, NoChanges, "place", None, Draft, TEXT, (None,) * 25)
        refused(self, NoChanges, "place", 23, Draft, TEXT, (one,) * 23 + (None,))

    def test_of_a_text_without_rows(self):
        self.assertEqual(len(Draft(Text(), (("a", ("add", -1, NEW)),))), 1)
        for change in (("cut", 0), ("move", 0, -1), ("put", 0, 0, ("a",)), ("add", 0, NEW), ("style", 0, "-")):
            refused(self, NoChanges, "place", 0, Draft, Text(), (("a", change),))


class Clashes(unittest.TestCase):
    def clashes(self, one, other, row):
        self.assertEqual(clash_row(one, other), row)
        self.assertEqual(clash_row(other, one), row)
        found = () if row is None else ((0, 1, row),)
        self.assertEqual(Draft(TEXT, (("a", one), ("b", other))).clashes(), found)
        self.assertEqual(Draft(TEXT, (("a", other), ("a", one))).clashes(), found)

    def test_put_and_strike(self):
        for gap in range(0, 11):
            self.clashes(("put", 3, gap, ("x",)), ("strike", 3, 1, 5), 3 if gap in (2, 3, 4) else None)
            self.clashes(("put", 3, gap, ("x",)), ("strike", 3, 2, 3), None)
        self.clashes(("put", 4, 1, ("x",)), ("strike", 4, 0, 2), 4)
        self.clashes(("put", 4, 1, ("x",)), ("strike", 3, 0, 6), None)
        self.clashes(("put", 9, 1, ("x",)), ("strike", 9, 0, 2), 9)

    def test_cut(self):
        for other in (("put", 3, 0, ("x",)), ("strike", 3, 0, 1), ("style", 3, "s"), ("move", 3, -1), ("move", 3, 3)):
            self.clashes(("cut", 3), other, 3)
            self.clashes(("cut", 4), other, None)
        self.clashes(("cut", 3), ("cut", 3), None)
        self.clashes(("cut", 3), ("add", 3, NEW), None)
        self.clashes(("cut", 3), ("move", 4, 3), None)

    def test_moves(self):
        self.clashes(("move", 3, -1), ("move", 3, 4), 3)
        self.clashes(("move", 3, 3), ("move", 3, 2), 3)
        self.clashes(("move", 3, 4), ("move", 3, 4), None)
        self.clashes(("move", 3, 5), ("move", 4, 6), None)
        self.clashes(("move", 3, 4), ("move", 4, 3), None)

    def test_styles(self):
        self.clashes(("style", 3, "-"), ("style", 3, "s"), 3)
        self.clashes(("style", 3, "s"), ("style", 3, "s"), None)
        self.clashes(("style", 3, "s"), ("style", 19, "t"), None)

    def test_what_goes_together(self):
        at_three = [
            ("put", 3, 0, ("x",)), ("put", 3, 0, ("y",)), ("put", 3, 2, ("x",)), ("strike", 3, 2, 4), ("strike", 3, 3, 4),
            ("strike", 3, 6, 9), ("style", 3, "s"), ("move", 3, 4), ("add", 3, NEW), ("add", 3, para())]
        for one, other in itertools.permutations(at_three, 2):
            self.clashes(one, other, None)

    def test_all_pairs(self):
        told = [
            ("put", 3, 2, ("x",)), ("put", 3, 3, ("x",)), ("put", 4, 1, ("x",)), ("strike", 3, 1, 5), ("strike", 3, 0, 10),
            ("strike", 4, 0, 2), ("style", 3, "s"), ("style", 3, "-"), ("style", 19, "-"), ("add", 3, NEW), ("add", -1, NEW),
            ("cut", 3), ("cut", 4), ("move", 3, 4), ("move", 3, 3), ("move", 4, 3)]
        for one, other in itertools.product(told, repeat=2):
            self.clashes(one, other, changing.clash(one, other))
        all_told = tuple(("a", change) for change in told)
        self.assertEqual(Draft(TEXT, all_told).clashes(), changing.clashes(all_told))

    def test_rising(self):
        changes = tuple(("a", change) for change in (
            ("style", 3, "s"), ("cut", 4), ("cut", 3), ("move", 4, -1), ("style", 3, "-"), ("move", 3, 4)))
        self.assertEqual(Draft(TEXT, changes).clashes(), ((0, 2, 3), (0, 4, 3), (1, 3, 4), (2, 4, 3), (2, 5, 3)))


if __name__ == "__main__":
    unittest.main()
