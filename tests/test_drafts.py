"""Points 22 and 23: Drafts, what comes of changes that are taken, left and opened again."""

import itertools
import random
import unittest

from papertongue import drafts
from papertongue.documents import document_of
from papertongue.drafts import Draft
from papertongue.errors import Clash, NoChanges, NoNumber, NoRows, TooMany
from papertongue.printing import as_plain
from papertongue.texts import Text

import changing
from helper import NUMBERS, OTHER_THINGS, cell, dot, figure, head, num, para, refused, table, words

STYLE = ("style", "s", 0, 0, 0, "left")
BREAK = ("break",)
DONE = ("done",)
NO_NUMBERS = [*OTHER_THINGS, -1, 4, 40, 10 ** 30, "0", "", (0,), [0], (), b"0"]


def text_of(*rows):
    return Text(rows)


def by(*changes):
    """CHANGES of one hand."""
    return tuple(("anna", change) for change in changes)


def put(row, gap, told):
    return ("put", row, gap, words(told))


def all_taken(text, *changes):
    """The rows by all these changes."""
    draft = Draft(text, by(*changes))
    draft.take_all(tuple(range(len(changes))))
    return draft.text().rows


class DraftCase(unittest.TestCase):
    def comes(self, rows, text, *changes):
        """See that these rows come of all these changes, by `newer` as well, in whatever turn they are taken."""
        self.assertEqual(all_taken(text, *changes), tuple(rows))
        draft = Draft(text, by(*changes))
        self.assertEqual(draft.newer(), Text(tuple(rows)))
        for number in reversed(range(len(changes))):
            draft.take(number)
        self.assertEqual(draft.text(), Text(tuple(rows)))
        self.assertIs(draft.elder(), text)


class Puts(DraftCase):
    def test_each_gap(self):
        tokens = words("a b c")
        for row in (para("a b c"), head(1, "a b c"), dot(2, "a b c")):
            for gap in range(4):
                made = tokens[:gap] + ("x", "y") + tokens[gap:]
                self.comes([row[:-1] + (made,)], text_of(row), put(0, gap, "x y"))
        made = table(1, "", ["a b c"])
        self.comes(table(1, "", ["a b c x"]), text_of(*made), put(2, 3, "x"))

    def test_into_a_row_without_words(self):
        self.comes([para("x"), num(1, "y")], text_of(para(), num(1)), put(0, 0, "x"), put(1, 0, "y"))

    def test_of_several_the_lesser_number_first(self):
        self.comes([para("x y z a")], text_of(para("a")), put(0, 0, "x"), put(0, 0, "y"), put(0, 0, "z"))
        self.comes([para("u a v w b")], text_of(para("a b")), put(0, 1, "v"), put(0, 0, "u"), put(0, 1, "w"))

    def test_within_a_note(self):
        self.comes([para("a { x b y }")], text_of(para("a { b }")), put(0, 2, "x"), put(0, 3, "y"))

    def test_at_places_of_the_elder_text(self):
        self.comes([para("x a y b z")], text_of(para("a b")), put(0, 0, "x"), put(0, 1, "y"), put(0, 2, "z"))


class Strikes(DraftCase):
    def test_each_span(self):
        tokens = words("a b c d")
        for first, behind in itertools.combinations(range(5), 2):
            made = tokens[:first] + tokens[behind:]
            self.comes([para(" ".join(made))], text_of(para("a b c d")), ("strike", 0, first, behind))

    def test_several(self):
        self.comes([para("c")], text_of(para("a b c d")), ("strike", 0, 0, 1), ("strike", 0, 1, 2), ("strike", 0, 3, 4))
        self.comes([para("d")], text_of(para("a b c d")), ("strike", 0, 0, 2), ("strike", 0, 1, 3))
        self.comes([para("b c d")], text_of(para("a b c d")), ("strike", 0, 0, 1), ("strike", 0, 0, 1))

    def test_a_note(self):
        self.comes([para("a d")], text_of(para("a { b c } d")), ("strike", 0, 1, 5))
        self.comes([para("a { } d")], text_of(para("a { b c } d")), ("strike", 0, 2, 4))

    def test_with_puts_at_its_ends(self):
        self.comes([para("a x y d")], text_of(para("a b c d")), ("strike", 0, 1, 3), put(0, 1, "x"), put(0, 3, "y"))
        self.comes([para("x y z")], text_of(para("a b")), put(0, 0, "x"), put(0, 1, "y"), put(0, 2, "z"),
                   ("strike", 0, 0, 1), ("strike", 0, 1, 2))


class Styles(DraftCase):
    def test_other_ones(self):
        self.comes([STYLE, para("a", "s"), para("b")], text_of(STYLE, para("a"), para("b", "s")),
                   ("style", 1, "s"), ("style", 2, "-"))
        self.comes([para("a", "lost")], text_of(para("a")), ("style", 0, "lost"), ("style", 0, "lost"))

    def test_with_words(self):
        self.comes([para("a x", "t")], text_of(para("a b")), ("strike", 0, 1, 2), ("style", 0, "t"), put(0, 2, "x"))


class Rows(DraftCase):
    TEXT = text_of(STYLE, head(1, "a"), para("b"), *table(1, "", ["c"]), BREAK)
    A, B, T, K = [head(1, "a")], [para("b")], table(1, "", ["c"]), [BREAK]

    def test_added_behind(self):
        new = [figure(1)]
        told = {
            -1: [STYLE] + new + self.A + self.B + self.T + self.K, 1: [STYLE] + self.A + new + self.B + self.T + self.K,
            2: [STYLE] + self.A + self.B + new + self.T + self.K, 6: [STYLE] + self.A + self.B + self.T + new + self.K,
            7: [STYLE] + self.A + self.B + self.T + self.K + new}
        for at, rows in told.items():
            self.comes(rows, self.TEXT, ("add", at, figure(1)))

    def test_ahead_of_all_behind_rules_alone(self):
        counter = ("counter", "head", "1", 1)
        self.comes([STYLE, counter, para("n")], text_of(STYLE, counter), ("add", -1, para("n")))
        self.comes([para("n")], text_of(), ("add", -1, para("n")))

    def test_several_at_one_place_by_numbers(self):
        self.comes([head(1, "a"), para("x"), para("y"), para("b"), para("z")], text_of(head(1, "a"), para("b")),
                   ("add", 0, para("x")), ("add", 1, para("z")), ("add", 0, para("y")))
        self.comes([para("x"), para("b"), para("y"), head(1, "a")], text_of(head(1, "a"), para("b")),
                   ("add", -1, para("x")), ("move", 1, -1), ("add", -1, para("y")))

    def test_cut(self):
        self.comes([STYLE] + self.B + self.T + self.K, self.TEXT, ("cut", 1))
        self.comes([STYLE] + self.T, self.TEXT, ("cut", 7), ("cut", 1), ("cut", 2), ("cut", 1))

    def test_behind_a_row_that_is_cut(self):
        self.comes([para("x"), para("b")], text_of(para("a"), para("b")), ("cut", 0), ("add", 0, para("x")))

    def test_moved(self):
        abc = text_of(para("a"), para("b"), para("c"))
        a, b, c = para("a"), para("b"), para("c")
        for (row, behind), rows in {
                (0, -1): [a, b, c], (0, 0): [a, b, c], (0, 1): [b, a, c], (0, 2): [b, c, a],
                (1, -1): [b, a, c], (1, 0): [a, b, c], (1, 1): [a, b, c], (1, 2): [a, c, b],
                (2, -1): [c, a, b], (2, 0): [a, c, b], (2, 1): [a, b, c], (2, 2): [a, b, c]}.items():
            self.comes(rows, abc, ("move", row, behind))
            self.comes(rows, abc, ("move", row, behind), ("move", row, behind))

    def test_moved_behind_each_other(self):
        abc = text_of(para("a"), para("b"), para("c"))
        self.comes([para("b"), para("a"), para("c")], abc, ("move", 0, 1), ("move", 1, 0))
        self.comes([para("b"), para("c"), para("a")], abc, ("move", 0, 2), ("move", 1, 0))
        # The place is that of the elder text, wherever the row there goes.
        self.comes([para("c"), para("b"), para("a")], abc, ("move", 0, 2), ("move", 2, 0))

    def test_of_alike_moves_the_lesser_one_counts(self):
        abc = text_of(para("a"), para("b"))
        self.comes([para("b"), para("x"), para("a"), para("y")], abc,
                   ("add", 1, para("x")), ("move", 0, 1), ("add", 1, para("y")), ("move", 0, 1))

    def test_moved_with_its_changes(self):
        self.comes([para("b"), para("a x", "s")], text_of(para("a"), para("b")),
                   ("move", 0, 1), put(0, 1, "x"), ("style", 0, "s"))

    def test_moved_to_beside_one_that_is_added(self):
        self.comes([para("b"), head(1, "n"), para("a")], text_of(para("a"), para("b")),
                   ("add", 1, head(1, "n")), ("move", 0, 1))
        self.comes([para("b"), para("a"), head(1, "n")], text_of(para("a"), para("b")),
                   ("move", 0, 1), ("add", 1, head(1, "n")))

    def test_into_a_when_and_out_of_it(self):
        when = ("when", "pages")
        self.comes([when, para("a"), DONE, para("b")], text_of(para("a"), when, para("b"), DONE),
                   ("move", 0, 1), ("move", 2, 3))

    def test_behind_a_close(self):
        self.comes([*self.T, para("a")], text_of(para("a"), *self.T), ("move", 0, 4))


class TooManyThere(DraftCase):
    def test_rows(self):
        text = text_of(*[BREAK] * 78)
        self.assertEqual(len(all_taken(text, *[("add", 3, BREAK)] * 2)), 80)
        for many in (3, 24):
            draft = Draft(text, by(*[("add", 3, BREAK)] * many))
            draft.take_all(tuple(range(many)))
            refused(self, TooMany, "many", 78 + many, draft.text)
        self.assertEqual(len(all_taken(text, *[("add", 3, BREAK)] * 4, ("cut", 0), ("cut", 1))), 80)

    def test_tokens(self):
        text = text_of(head(1, "a"), para("a " * 38), dot(1, "a " * 40))
        self.assertEqual(len(all_taken(text, put(1, 0, "x x"))[1][2]), 40)
        draft = Draft(text, by(put(1, 0, "x x x"), put(2, 40, "x"), put(2, 0, "y"), ("strike", 2, 0, 2)))
        draft.take_all((0, 1, 2))
        refused(self, TooMany, "many", 41, draft.text)
        draft.leave(0)
        refused(self, TooMany, "many", 42, draft.text)
        draft.take(3)
        self.assertEqual(len(draft.text().rows[2][3]), 40)

    def test_rows_ahead_of_tokens(self):
        text = text_of(para("a " * 40), *[BREAK] * 79)
        draft = Draft(text, by(put(0, 0, "x " * 40), ("add", 0, BREAK), put(0, 7, "x " * 9)))
        draft.take_all((0, 1, 2))
        refused(self, TooMany, "many", 81, draft.text)
        refused(self, TooMany, "many", 81, draft.newer)
        draft.leave(1)
        refused(self, TooMany, "many", 89, draft.text)

    def test_the_first_row_as_it_is_then(self):
        text = text_of(para("a " * 40), para("b " * 40))
        draft = Draft(text, by(put(0, 0, "x"), put(1, 0, "x x"), ("move", 0, 1)))
        draft.take_all((0, 1))
        refused(self, TooMany, "many", 41, draft.text)
        draft.take(2)
        refused(self, TooMany, "many", 42, draft.text)

    def test_it_stays_as_it_was(self):
        draft = Draft(text_of(para("a " * 40)), by(put(0, 0, "x")))
        draft.take(0)
        for _ in range(2):
            refused(self, TooMany, "many", 41, draft.text)
            self.assertEqual(draft.state(), ("taken",))
        draft.leave(0)
        self.assertEqual(draft.text(), draft.elder())
        self.assertEqual(draft.newer(), draft.elder())
        draft.open_again(0)
        self.assertEqual(draft.text(), draft.elder())
        refused(self, TooMany, "many", 41, draft.newer)


class Deeds(unittest.TestCase):
    def setUp(self):
        self.text = text_of(para("a b c"))
        # 0 goes with all but 1, 1 with none but itself, 2 and 3 are apart as well.
        self.changes = (("anna", put(0, 1, "x")), ("bob", ("cut", 0)), ("c", ("style", 0, "s")), ("c", ("style", 0, "t")))
        self.draft = Draft(self.text, self.changes)

    def test_open_at_first(self):
        self.assertEqual(self.draft.state(), ("open",) * 4)
        self.assertEqual(self.draft.text(), self.text)
        self.assertEqual(Draft(self.text).state(), ())

    def test_each_tells_none(self):
        self.assertIs(self.draft.take(0), None)
        self.assertIs(self.draft.take(0), None)
        self.assertIs(self.draft.leave(0), None)
        self.assertIs(self.draft.open_again(0), None)
        self.assertIs(self.draft.take_all((0, 2)), None)
        self.assertIs(self.draft.take_all(()), None)

    def test_all_turns(self):
        deeds = {"taken": self.draft.take, "left": self.draft.leave, "open": self.draft.open_again}
        for one, other in itertools.product(deeds, repeat=2):
            deeds[one](0)
            self.assertEqual(self.draft.state(), (one, "open", "open", "open"))
            deeds[one](0)
            deeds[other](0)
            self.assertEqual(self.draft.state(), (other, "open", "open", "open"))
            self.assertEqual(len(self.draft.text().rows[0][2]), 4 if other == "taken" else 3)

    def test_one_does_not_touch_others(self):
        self.draft.take(2)
        self.draft.leave(1)
        self.draft.take(0)
        self.draft.open_again(3)
        self.assertEqual(self.draft.state(), ("taken", "left", "taken", "open"))
        self.assertEqual(self.draft.text().rows, (para("a x b c", "s"),))

    def test_state_is_told_anew(self):
        before = self.draft.state()
        self.assertIs(type(before), tuple)
        self.draft.take(0)
        self.assertEqual(before, ("open",) * 4)

    def test_clash_in_taking(self):
        self.draft.take(0)
        self.look_at_clash(0, 1, self.draft.take, 1)
        self.draft.leave(1)
        self.look_at_clash(0, 1, self.draft.take, 1)
        self.assertEqual(self.draft.state(), ("taken", "left", "open", "open"))
        self.draft.leave(0)
        self.draft.take(1)
        self.look_at_clash(0, 1, self.draft.take, 0)
        self.look_at_clash(1, 2, self.draft.take, 2)
        self.assertEqual(self.draft.state(), ("left", "taken", "open", "open"))

    def test_clash_with_the_least(self):
        self.draft.take_all((2, 0))
        self.look_at_clash(0, 1, self.draft.take, 1)
        self.draft.leave(0)
        self.look_at_clash(1, 2, self.draft.take, 1)
        self.look_at_clash(2, 3, self.draft.take, 3)

    def test_clash_only_in_taking(self):
        self.draft.take(0)
        self.draft.leave(1)
        self.draft.open_again(1)
        self.draft.leave(1)
        self.assertEqual(self.draft.state(), ("taken", "left", "open", "open"))

    def look_at_clash(self, one, other, asked, *given):
        before = self.draft.state()
        error = refused(self, Clash, "one", one, asked, *given)
        self.assertEqual((error.other, error.row), (other, 0))
        self.assertEqual(self.draft.state(), before)

    def test_all_or_none(self):
        self.draft.take_all((3, 0))
        self.assertEqual(self.draft.state(), ("taken", "open", "open", "taken"))
        self.draft.take_all((3, 3, 0))
        self.look_at_clash(2, 3, self.draft.take_all, (0, 2))
        self.draft.leave(3)
        self.draft.leave(0)
        self.look_at_clash(0, 1, self.draft.take_all, (0, 1, 2))
        self.look_at_clash(0, 1, self.draft.take_all, (1, 0, 2))
        self.look_at_clash(2, 3, self.draft.take_all, (3, 0, 2))
        self.assertEqual(self.draft.state(), ("left", "open", "open", "left"))

    def test_all_refused_as_the_first_in_their_turn(self):
        before = self.draft.state()
        self.look_at_clash(0, 1, self.draft.take_all, (0, 1, 9))
        refused(self, NoNumber, "place", 9, self.draft.take_all, (0, 9, 1))
        refused(self, NoNumber, "place", -1, self.draft.take_all, (-1, 0, 1))
        refused(self, NoNumber, "place", None, self.draft.take_all, (2, None, 3))
        self.assertEqual(self.draft.state(), before)

    def test_no_number(self):
        for thing in NO_NUMBERS:
            for asked in (self.draft.take, self.draft.leave, self.draft.open_again):
                self.assertIs(refused(self, NoNumber, "place", thing, asked, thing).place, thing)
            self.assertIs(refused(self, NoNumber, "place", thing, self.draft.take_all, (0, thing)).place, thing)
            self.assertIs(refused(self, NoNumber, "place", thing, self.draft.take_all, (thing, 0)).place, thing)
        refused(self, NoNumber, "place", 0, Draft(self.text).take, 0)
        self.assertEqual(self.draft.state(), ("open",) * 4)

    def test_no_tuple_of_numbers(self):
        for thing in [*OTHER_THINGS, *NUMBERS, "", "01", [0], {0}, range(2)]:
            refused(self, NoNumber, "place", None, self.draft.take_all, thing)
        self.assertEqual(self.draft.state(), ("open",) * 4)

    def test_a_list_handed_in_stays(self):
        given = [0, 1]
        refused(self, NoNumber, "place", None, self.draft.take_all, given)
        self.assertEqual(given, [0, 1])

    def test_by_names(self):
        draft = Draft(changes=self.changes, text=self.text)
        draft.take(number=0)
        draft.open_again(number=0)
        draft.leave(number=1)
        draft.take_all(numbers=(0, 3))
        self.assertEqual(draft.state(), ("taken", "left", "open", "taken"))


class Newer(unittest.TestCase):
    def test_by_all_that_are_not_left(self):
        draft = Draft(text_of(para("a")), by(put(0, 0, "x"), put(0, 1, "y"), ("style", 0, "s")))
        self.assertEqual(draft.newer().rows, (para("x a y", "s"),))
        draft.leave(1)
        draft.take(2)
        self.assertEqual(draft.newer().rows, (para("x a", "s"),))
        draft.open_again(1)
        draft.leave(0)
        self.assertEqual(draft.newer().rows, (para("a y", "s"),))

    def test_clash_of_the_least_two(self):
        draft = Draft(text_of(para("a"), para("b")), by(
            ("cut", 1), ("style", 0, "s"), ("move", 1, 0), ("style", 0, "t"), ("style", 0, "s"), put(1, 0, "x")))
        self.assertEqual(draft.clashes(), ((0, 2, 1), (0, 5, 1), (1, 3, 0), (3, 4, 0)))
        for left, told in ((None, (0, 2, 1)), (2, (0, 5, 1)), (5, (1, 3, 0)), (1, (3, 4, 0))):
            if left is not None:
                draft.leave(left)
            error = refused(self, Clash, "one", told[0], draft.newer)
            self.assertEqual((error.other, error.row), told[1:])
        draft.leave(3)
        self.assertEqual(draft.newer().rows, (para("a", "s"),))

    def test_clashes_are_told_of_all_states(self):
        draft = Draft(text_of(para("a")), by(("cut", 0), ("style", 0, "s")))
        for deed in (draft.take, draft.leave, draft.open_again):
            deed(0)
            self.assertEqual(draft.clashes(), ((0, 1, 0),))


class Told(unittest.TestCase):
    TEXT = text_of(STYLE, para("a b", "s"))
    CHANGES = (("anna", put(1, 2, "c ~d")), ("bob", ("add", -1, num(2, "x { y }"))), ("c", ("move", 1, -1)))

    def test_len_and_truth(self):
        draft = Draft(self.TEXT, self.CHANGES)
        self.assertEqual((len(draft), bool(draft)), (3, True))
        draft.take(0)
        draft.leave(1)
        self.assertEqual((len(draft), bool(draft)), (1, True))
        draft.take(2)
        self.assertEqual((len(draft), bool(draft)), (0, False))
        draft.open_again(1)
        self.assertEqual((len(draft), bool(draft)), (1, True))
        self.assertEqual((len(Draft(self.TEXT)), bool(Draft(self.TEXT))), (0, False))

    def test_repr(self):
        draft = Draft(self.TEXT, self.CHANGES)
        self.assertEqual(repr(draft), "Draft(3)")
        draft.take(0)
        self.assertEqual(repr(draft), "Draft(3)")
        self.assertEqual(repr(Draft(self.TEXT)), "Draft(0)")

    def test_written(self):
        draft = Draft(self.TEXT, self.CHANGES)
        draft.take(0)
        draft.leave(2)
        self.assertEqual(str(draft), "\n".join([
            "style s 0 0 0 left", "para s a b", "=====", "taken anna put 1 2 c ~d", "open bob add -1 item 2 num x { y }",
            "left c move 1 -1"]))

    def test_each_change_written(self):
        text = text_of(head(1, "a"), para("b c"))
        changes = by(("strike", 1, 0, 2), ("style", 1, "-"), ("cut", 0), ("add", 1, head(1)), ("add", 0, BREAK),
                     ("add", -1, ("include", "x")), ("move", 0, 1))
        self.assertEqual(str(Draft(text, changes)).split("\n")[2:], [
            "=====", "open anna strike 1 0 2", "open anna style 1 -", "open anna cut 0", "open anna add 1 head 1",
            "open anna add 0 break", "open anna add -1 include x", "open anna move 0 1"])

    def test_written_without_rows_and_changes(self):
        self.assertEqual(str(Draft(Text())), "=====")
        self.assertEqual(str(Draft(text_of(BREAK))), "break\n=====")
        self.assertEqual(str(Draft(Text(), by(("add", -1, BREAK)))), "=====\nopen anna add -1 break")

    def test_values_stay(self):
        draft = Draft(self.TEXT, self.CHANGES)
        told = (str(self.TEXT), self.TEXT.rows)
        draft.take_all((0, 1, 2))
        draft.text(), draft.newer(), str(draft), draft.clashes()
        self.assertIs(draft.elder(), self.TEXT)
        self.assertEqual((str(draft.elder()), draft.elder().rows), told)
        self.assertEqual(self.CHANGES, Told.CHANGES)


class Alike(unittest.TestCase):
    def test_where_texts_changes_and_states_are(self):
        def made():
            return Draft(text_of(para("a")), by(put(0, 0, "x"), ("cut", 0)))
        one, other = made(), made()
        self.assertTrue(one == other and not one != other)
        one.take(0)
        self.assertTrue(one != other and not one == other)
        other.leave(0)
        self.assertNotEqual(one, other)
        other.take(0)
        self.assertEqual(one, other)
        one.open_again(0)
        other.open_again(0)
        self.assertEqual(one, made())

    def test_where_they_are_not(self):
        told = [
            Draft(Text()), Draft(text_of(para("a"))), Draft(text_of(para("b"))), Draft(text_of(para("a")), by(("cut", 0))),
            Draft(text_of(para("a")), (("bob", ("cut", 0)),)), Draft(text_of(para("a")), by(("style", 0, "-")))]
        for one, other in itertools.permutations(told, 2):
            self.assertNotEqual(one, other)

    def test_not_things_of_other_kinds(self):
        draft = Draft(text_of(para("a")))
        others = [draft.elder(), document_of(draft.elder()), as_plain(document_of(draft.elder())), str(draft), draft.text()]
        for thing in [*OTHER_THINGS, *NUMBERS, *others, (), "Draft(0)"]:
            self.assertIs(draft == thing, False)
            self.assertIs(draft != thing, True)
        for thing in others:
            self.assertIs(thing == draft, False)


class Refused(unittest.TestCase):
    def test_no_text(self):
        for thing in [*OTHER_THINGS, *NUMBERS, "", (para("a"),), Draft(Text())]:
            if type(thing) is not Text:
                refused(self, NoRows, "place", None, Draft, thing)
                refused(self, NoRows, "place", None, Draft, thing, None)
                refused(self, NoRows, "place", None, Draft, text=thing, changes=())
        refused(self, NoChanges, "place", None, Draft, Text(), None)

    def test_interface(self):
        self.assertEqual(Draft.__module__, "papertongue.drafts")
        self.assertIs(drafts.Draft, Draft)
        for name in "take leave open_again take_all state text elder newer clashes".split():
            self.assertIn(name, vars(Draft))


class ByChance(unittest.TestCase):
    def test_as_the_model(self):
        taken = many = 0
        for number in range(400):
            text = changing.random_text(number, rows=3 + number % 30, long=3 + number % 38)
            changes = changing.random_changes(number, text.rows)
            draft = Draft(text, changes)
            self.assertEqual(draft.clashes(), changing.clashes(changes))
            numbers = changing.together(random.Random(number), changes)
            draft.take_all(tuple(numbers))
            try:
                rows = changing.changed_rows(text.rows, changes, numbers)
            except changing.TooManyThere as error:
                refused(self, TooMany, "many", error.args[0], draft.text)
                many += 1
            else:
                self.assertEqual(draft.text().rows, rows)
            taken += len(numbers)
            self.look_at_turns(draft, text, changes, numbers)
        self.assertGreater(taken, 1500)
        self.assertGreater(many, 3)

    def look_at_turns(self, draft, text, changes, numbers):
        """The same comes of the same changes in whatever turn; of all left the elder text, of all taken the newer."""
        chance = random.Random(len(numbers))
        other = Draft(text, changes)
        for _ in range(2):
            for number in chance.sample(numbers, len(numbers)):
                other.take(number)
                if chance.random() < 0.3:
                    other.open_again(number)
                    other.take(number)
        self.assertEqual(other, draft)
        for number in range(len(changes)):
            if number not in numbers:
                other.leave(number)
        self.same(other.text, other.newer)
        self.same(other.text, draft.text)
        for number in range(len(changes)):
            other.leave(number)
        self.assertEqual(other.text(), text)
        self.assertEqual(other.newer(), text)

    def same(self, one, other):
        self.assertEqual(self.told(one), self.told(other))

    def told(self, asked):
        try:
            return asked()
        except TooMany as error:
            return error.many


if __name__ == "__main__":
    unittest.main()
