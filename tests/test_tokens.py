"""Point 4 and the interface's row tokens."""

import itertools
import re
import string
import unittest

from helper import NUMBERS, OTHER_THINGS, deep_tuple, refused
from papertongue import tokens
from papertongue.errors import NoTokens
from papertongue.tokens import is_bare, is_name, is_token, is_tokens, is_word, read_tokens, show_tokens

LETTERS = string.ascii_letters
WORD_SIGNS = LETTERS + string.digits + ".,"
ALL_SIGNS = [chr(number) for number in range(0, 384)]


class Words(unittest.TestCase):
    def test_one_to_twelve_signs(self):
        for many in range(0, 16):
            self.assertIs(is_word("a" * many), 1 <= many <= 12)

    def test_which_signs(self):
        for sign in ALL_SIGNS:
            self.assertIs(is_word(sign), sign in WORD_SIGNS)
            self.assertIs(is_word("a" + sign + "b"), sign in WORD_SIGNS)
            self.assertIs(is_word("ab" + sign), sign in WORD_SIGNS)

    def test_signs_alone(self):
        for word in (".", ",", "...,,,...,,,", "0", "007", "A.b,9", "Z"):
            self.assertIs(is_word(word), True)

    def test_no_words(self):
        for thing in ("", " ", "a b", "a\n", "\na", "a-b", "-", "..|", "@a", "{", "a" * 13, "a" * 500):
            self.assertIs(is_word(thing), False)

    def test_other_things(self):
        for thing in [*OTHER_THINGS, *NUMBERS, (), ("a",), deep_tuple(9)]:
            self.assertIs(is_word(thing), False)

    def test_by_name(self):
        self.assertIs(is_word(thing="abc"), True)


class Names(unittest.TestCase):
    def test_one_to_eight_letters(self):
        for many in range(0, 12):
            self.assertIs(is_name("n" * many), 1 <= many <= 8)

    def test_small_letters_alone(self):
        for sign in ALL_SIGNS:
            self.assertIs(is_name(sign), sign in string.ascii_lowercase)
            self.assertIs(is_name("a" + sign), sign in string.ascii_lowercase)

    def test_other_things(self):
        for thing in [*OTHER_THINGS, *NUMBERS, (), ("a",)]:
            self.assertIs(is_name(thing), False)


class EachToken(unittest.TestCase):
    def test_a_word(self):
        for many in range(0, 16):
            self.assertIs(is_token("B" * many), 1 <= many <= 12)

    def test_a_sign_and_a_name(self):
        for sign in "@#~&":
            for many in range(0, 12):
                self.assertIs(is_token(sign + "n" * many), 1 <= many <= 8)
            for name in ("A", "a1", "a.", "aB", "1", "a b", " a", sign, "^a", "{", "a\n"):
                self.assertIs(is_token(sign + name), False)

    def test_a_word_for_the_index(self):
        for many in range(0, 16):
            self.assertIs(is_token("^" + "W" * many), 1 <= many <= 12)
        for word in ("A", "a1", "9.,"):
            self.assertIs(is_token("^" + word), True)
        for word in ("^a", "@a", "a b", " a", "{", "a-"):
            self.assertIs(is_token("^" + word), False)

    def test_brackets(self):
        for token in ("{", "}", "[", "]"):
            self.assertIs(is_token(token), True)
        for token in ("{}", "[]", "{a", "a}", "(", ")", "<", " {", "{ "):
            self.assertIs(is_token(token), False)

    def test_each_sign_alone(self):
        for sign in ALL_SIGNS:
            self.assertIs(is_token(sign), sign in WORD_SIGNS + "{}[]")

    def test_each_sign_ahead_of_a_name(self):
        for sign in ALL_SIGNS:
            self.assertIs(is_token(sign + "abc"), sign in WORD_SIGNS + "@#~&^")

    def test_other_things(self):
        for thing in [*OTHER_THINGS, *NUMBERS, (), ("a",), ""]:
            self.assertIs(is_token(thing), False)

    def test_by_name(self):
        self.assertIs(is_token(thing="@a"), True)


EACH_KIND = ("Word,1.", "@mark", "#mark", "~mark", "&mark", "^Word", "{", "a", "}", "[", "b", "]")


class Tokens(unittest.TestCase):
    def test_each_kind(self):
        self.assertIs(is_tokens(EACH_KIND), True)
        self.assertIs(is_tokens(()), True)

    def test_forty_have_room(self):
        for many in range(36, 45):
            self.assertIs(is_tokens(("a",) * many), many <= 40)
            self.assertIs(is_tokens(("a",) * many, plain=True), many <= 40)
            self.assertIs(is_tokens(("{",) + ("a",) * (many - 2) + ("}",)), many <= 40)

    def test_brackets_in_pairs(self):
        for text in ("{ }", "[ ]", "{ } [ ]", "[ ] { }", "{ } { }", "a { b c } d [ e ] f"):
            self.assertIs(is_tokens(tuple(text.split())), True)
        for text in ("{", "}", "[", "]", "} {", "] [", "{ ]", "[ }", "{ { } }", "[ [ ] ]", "{ [ ] }", "[ { } ]",
                     "{ } }", "{ } {", "[ { ] }", "{ [ } ]"):
            self.assertIs(is_tokens(tuple(text.split())), False)

    def test_plain_ones_have_no_brackets(self):
        for token in ("Word,1.", "@mark", "#mark", "~mark", "&mark", "^Word"):
            self.assertIs(is_tokens((token,), plain=True), True)
        for text in ("{ }", "[ ]", "a { b } c"):
            self.assertIs(is_tokens(tuple(text.split()), plain=True), False)
            self.assertIs(is_tokens(tuple(text.split()), plain=False), True)
        self.assertIs(is_tokens((), plain=True), True)
        self.assertIs(is_tokens(("a", "b c"), plain=True), False)

    def test_bare_ones_have_no_places_either(self):
        for token in ("Word,1.", "@mark", "#mark", "^Word"):
            self.assertIs(is_bare((token,)), True)
        for text in ("{ }", "[ ]", "~a", "&a", "b ~a c", "b &a"):
            self.assertIs(is_bare(tuple(text.split())), False)
        self.assertIs(is_bare(()), True)
        self.assertIs(is_bare(["a"]), False)
        self.assertIs(is_bare(("a",) * 41), False)

    def test_other_things(self):
        for thing in [*OTHER_THINGS, *NUMBERS, "", "a", "{ }"]:
            self.assertIs(is_tokens(thing), False)
            self.assertIs(is_tokens(thing, plain=True), False)
            self.assertIs(is_tokens((thing,)), thing == "a" if isinstance(thing, str) else False)
        self.assertIs(is_tokens(deep_tuple(1)), False)
        self.assertIs(is_tokens(deep_tuple(9)), False)

    def test_by_name(self):
        self.assertIs(is_tokens(thing=("a",), plain=True), True)
        with self.assertRaises(TypeError):
            is_tokens(("a",), True)


class Shown(unittest.TestCase):
    def test_blanks_between(self):
        self.assertEqual(show_tokens(EACH_KIND), "Word,1. @mark #mark ~mark &mark ^Word { a } [ b ]")
        self.assertEqual(show_tokens(("a",)), "a")
        self.assertEqual(show_tokens(()), "")

    def test_by_name(self):
        self.assertEqual(show_tokens(tokens=("a", "b")), "a b")
        self.assertEqual(read_tokens(text="a b"), ("a", "b"))

    def test_forty(self):
        self.assertEqual(show_tokens(("abc",) * 40), " ".join(["abc"] * 40))
        refused(self, NoTokens, "place", 41, show_tokens, ("abc",) * 41)

    def test_of_no_tuple(self):
        for thing in [*OTHER_THINGS, *NUMBERS, "", "a b", "{"]:
            refused(self, NoTokens, "place", None, show_tokens, thing)

    def test_of_things_that_are_no_tokens(self):
        for thing in [*OTHER_THINGS, *NUMBERS, "", " ", "a b", "a" * 13, "@", "^", ("a",)]:
            refused(self, NoTokens, "place", 0, show_tokens, (thing,))
            refused(self, NoTokens, "place", 2, show_tokens, ("a", "b", thing, "c", thing))

    def test_a_list_stays_as_it_was(self):
        given = ["a", "b"]
        refused(self, NoTokens, "place", None, show_tokens, given)
        self.assertEqual(given, ["a", "b"])


class Read(unittest.TestCase):
    def test_words_between_blanks(self):
        for text in ("a b", " a b", "a b ", "a  b", "   a     b   "):
            self.assertEqual(read_tokens(text), ("a", "b"))

    def test_nothing(self):
        for text in ("", " ", "     "):
            self.assertEqual(read_tokens(text), ())

    def test_each_kind_comes_back(self):
        self.assertEqual(read_tokens(show_tokens(EACH_KIND)), EACH_KIND)
        self.assertEqual(read_tokens(show_tokens(())), ())

    def test_a_line_end_parts_no_words(self):
        refused(self, NoTokens, "place", 0, read_tokens, "a\nb")
        refused(self, NoTokens, "place", 0, read_tokens, "\n")
        refused(self, NoTokens, "place", 1, read_tokens, "a \n b")
        refused(self, NoTokens, "place", 1, read_tokens, "a b\n")
        refused(self, NoTokens, "place", 0, read_tokens, "\na b")
        refused(self, NoTokens, "place", 0, read_tokens, "a\tb")

    def test_of_no_text(self):
        for thing in [*OTHER_THINGS, *NUMBERS, (), ("a",), ("a", "b")]:
            refused(self, NoTokens, "place", None, read_tokens, thing)


def places(test, text, place):
    """See that the tokens of the text are refused at this place, written and read."""
    refused(test, NoTokens, "place", place, read_tokens, text)
    refused(test, NoTokens, "place", place, show_tokens, tuple(text.split(" ")))


class Places(unittest.TestCase):
    def test_the_first_that_is_none(self):
        places(self, "-", 0)
        places(self, "a b- c d-", 1)
        places(self, "a b c @", 3)
        places(self, "{ a } (", 3)

    def test_the_first_that_cannot_stand_there(self):
        places(self, "}", 0)
        places(self, "a ]", 1)
        places(self, "{ a ]", 2)
        places(self, "[ a }", 2)
        places(self, "{ a {", 2)
        places(self, "{ [ } ]", 1)
        places(self, "[ ] a } -", 3)

    def test_the_first_of_both(self):
        places(self, "{ - }  }".replace("  ", " "), 1)
        places(self, "} -", 0)
        places(self, "{ a [ -", 2)

    def test_open_at_the_end(self):
        places(self, "{", 1)
        places(self, "a b [", 3)
        places(self, "{ } [ a b", 5)

    def test_more_than_forty(self):
        for many in (41, 42, 60, 500):
            places(self, " ".join(["a"] * many), many)

    def test_one_that_is_none_goes_ahead_of_too_many(self):
        places(self, " ".join(["a"] * 45 + ["-"] + ["a"] * 5), 45)
        places(self, " ".join(["a"] * 40 + ["-"]), 40)
        places(self, " ".join(["a"] * 44 + ["}"]), 44)

    def test_open_at_the_end_and_too_many(self):
        places(self, " ".join(["{"] + ["a"] * 44), 45)
        places(self, " ".join(["a"] * 39 + ["{"]), 40)

    def test_all_short_ones(self):
        whole = re.compile(r"(a|\{a*\}|\[a*\])*")
        begun = re.compile(r"(a|\{a*\}|\[a*\])*(\{a*|\[a*)?")
        for many in range(0, 7):
            for signs in itertools.product("a{}[]", repeat=many):
                text = "".join(signs)
                self.assertIs(is_tokens(signs), whole.fullmatch(text) is not None)
                if whole.fullmatch(text):
                    self.assertEqual(read_tokens(show_tokens(signs)), signs)
                    continue
                bad = [at for at in range(many) if not begun.fullmatch(text[:at + 1])]
                refused(self, NoTokens, "place", min(bad + [many]), show_tokens, signs)


class Interface(unittest.TestCase):
    def test_defined_there(self):
        for name in ("is_word", "is_token", "is_tokens", "show_tokens", "read_tokens"):
            self.assertEqual(getattr(tokens, name).__module__, "papertongue.tokens")


if __name__ == "__main__":
    unittest.main()
