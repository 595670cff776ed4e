"""Points 3 and 8 to 19 of many documents by chance: held against the model, and looked at for what the whole promises."""

import unittest

from model import Model, Numbers, TooTallThere, tokens_at
from randoms import random_document

from papertongue.documents import Document
from papertongue.errors import TooTall
from papertongue.numbers import counted, number_of, numbers
from papertongue.places import shown, source
from papertongue.printing import printed

from helper import document, head, para

# (first number, how many, rows, most tokens): some hundreds in all, few of them long ones.
SERIES = [(0, 120, 6, 6), (1000, 60, 16, 12), (2000, 24, 50, 10), (3000, 8, 120, 14), (4000, 6, 145, 30)]


def documents():
    """(number, Document) of all."""
    for first, many, rows, long in SERIES:
        for number in range(first, first + many):
            yield number, random_document(number, rows=rows, long=long)


def sizes(number):
    """Some SIZEs, other ones for each number."""
    wide = 24 + number % 17
    return [("plain",), ("screen", wide), ("pages", 40 - number % 17, 10 + number % 15), ("pages", 24, 10 + number % 3)]


def all_printed(made, number):
    """The Printings of a Document that aren't refused."""
    found = []
    for size in sizes(number):
        try:
            found.append(printed(made, size))
        except TooTall:
            pass
    return found


class AsTheModel(unittest.TestCase):
    def test_numbers(self):
        for number, made in documents():
            model = Numbers(made.rows)
            found = numbers(made)
            self.assertEqual(
                found, tuple(place + told for place, told in sorted(model.all.items(), key=turn)), number)
            for row, token, kind, _ in found[::3]:
                self.assertEqual(counted(made, row, token), model.made(row, token, kind), number)

    def test_printings(self):
        many = 0
        for number, made in documents():
            for size in sizes(number):
                try:
                    model = Model(made.rows, size)
                except TooTallThere as tall:
                    with self.assertRaises(TooTall) as caught:
                        printed(made, size)
                    self.assertEqual(caught.exception.row, tall.args[0], (number, size))
                    continue
                found = printed(made, size)
                self.assertEqual(found.pages, model.pages_told(), (number, size))
                self.assertEqual(found.rounds, tuple(model.rounds), (number, size))
                self.assertEqual(found.ends, tuple(model.ends), (number, size))
                self.look_at_marks(made, found, model)
                self.look_at_places(made, found, model)
                many += 1
        self.assertGreater(many, 600)

    def look_at_marks(self, made, found, model):
        for name, place in model.stands.items():
            self.assertEqual(found.stands(name), place)
            self.assertEqual(number_of(made, name), model.mark_numbers[name])

    def look_at_places(self, made, found, model):
        for page, lines in enumerate(model.signs, 1):
            for number, line in enumerate(lines, 1):
                for column, (_, what, _) in enumerate(line):
                    self.assertEqual(source(found, page, number, column), what)
        pieces = model.pieces()
        for row, token, told in all_tokens(made):
            place = shown(found, row, token)
            if row not in model.shown:
                self.assertEqual(place, "hidden")
            elif told[0] == "@":
                self.assertEqual(place, "mark")
            else:
                self.assertEqual(place, "close" if told in ("}", "]") else pieces[(row, token)])


def turn(told):
    """ROWS, and in each of them the number without a TOKEN first."""
    row, token = told[0]
    return (row, -1 if token is None else token)


def all_tokens(made):
    """(ROW, TOKEN, the TOKEN itself) of a Document."""
    for row, told in enumerate(made.rows):
        for token, sign in enumerate(tokens_at(told)):
            yield row, token, sign


class TheWhole(unittest.TestCase):
    def test_each_token_is_shown_just_once_and_each_sign_leads_back(self):
        for number, made in documents():
            for found in all_printed(made, number):
                signs = {}
                for page, lines in enumerate(found.pages, 1):
                    for line, text in enumerate(lines, 1):
                        self.assertEqual(text, text.rstrip())
                        for column, sign in enumerate(text):
                            what = source(found, page, line, column)
                            if what[0] == "text":
                                signs.setdefault(what[1:3], []).append((what[3], sign, (page, line, column)))
                            else:
                                self.assertEqual(what[1] == "fill", sign in (" ", "|"))
                self.look_at_tokens(made, found, signs)

    def look_at_tokens(self, made, found, signs):
        """Each TOKEN's signs are its word's, once each, and stand where its PIECEs tell."""
        for row, token, told in all_tokens(made):
            pieces = shown(found, row, token)
            if isinstance(pieces, str):
                self.assertNotIn((row, token), signs)
                continue
            own = signs[(row, token)]
            self.assertEqual([offset for offset, _, _ in sorted(own)], list(range(len(own))))
            word = "".join(sign for _, sign, _ in sorted(own))
            if told[0] not in "#~&{[":
                self.assertEqual(word, told.lstrip("^"))
            places = [(page, line, column) for page, line, first, behind in pieces for column in range(first, behind)]
            self.assertEqual(places, [place for _, _, place in sorted(own)])

    def test_references_tell_numbers_and_places(self):
        for number, made in documents():
            for found in all_printed(made, number):
                for row, token, told in all_tokens(made):
                    pieces = shown(found, row, token)
                    if told[0] in "#~&" and not isinstance(pieces, str):
                        word = "".join(found.pages[page - 1][line - 1][a:b] for page, line, a, b in pieces)
                        self.look_at_reference(made, found, told, word)

    def look_at_reference(self, made, found, told, word):
        place = found.stands(told[1:])
        if told[0] == "#":
            self.assertEqual(word, number_of(made, told[1:]))
        elif told[0] == "~":
            self.assertEqual(word.lstrip("."), "-" if place is None else str(place))
        else:
            self.assertIn(word, ["-"] if place is None else ["above", "below"])

    def test_pages_and_lines_have_room(self):
        for number, made in documents():
            for found in all_printed(made, number):
                self.assertEqual(len(found.ends), len(found.pages))
                for page in found.pages:
                    self.assertTrue(page)
                    if found.size[0] == "pages":
                        self.assertLessEqual(len(page), found.size[2])
                        self.assertGreater(len(page), 1)
                    if found.size[0] != "plain":
                        self.assertLessEqual(max(len(line) for line in page), found.size[1])
                if found.pages:
                    self.assertEqual(found.ends[-1], ("end",))
                    self.assertNotIn(("end",), found.ends[:-1])

    def test_rounds_rise(self):
        most = 0
        for number, made in documents():
            for found in all_printed(made, number):
                self.assertEqual(set(found.rounds[0]) - {1}, set())
                for one, other in zip(found.rounds, found.rounds[1:]):
                    self.assertNotEqual(one, other)
                    self.assertTrue(all(a <= b for a, b in zip(one, other)))
                most = max(most, len(found.rounds))
        self.assertGreater(most, 2)

    def test_the_same_again(self):
        for number, made in documents():
            if number % 7 == 0:
                for found in all_printed(made, number):
                    again = printed(Document(made.texts), found.size)
                    self.assertEqual(again, found)
                    self.assertEqual((again.rounds, again.ends), (found.rounds, found.ends))


class LongOnes(unittest.TestCase):
    def test_in_many_sizes(self):
        made = random_document(5, rows=150, long=12)
        for width in range(24, 41, 4):
            for height in range(10, 25, 7):
                size = ("pages", width, height)
                try:
                    model = Model(made.rows, size)
                except TooTallThere as tall:
                    with self.assertRaises(TooTall) as caught:
                        printed(made, size)
                    self.assertEqual(caught.exception.row, tall.args[0])
                    continue
                self.assertEqual(printed(made, size).pages, model.pages_told())

    def test_a_hundred_and_sixty_rows_of_forty_tokens(self):
        words = " ".join(["abcdefghijkl"] * 38)
        rows = [para(f"{words} @{first}{second} ~aa") for first in "abcdefgh" for second in "abcdefghij"]
        made = document(*rows[:78], head(1), ("index",))
        found = printed(made, ("screen", 24))
        self.assertEqual(len(found.pages[0]), 78 * 39 + 1)
        self.assertEqual(found.stands("hh"), 77 * 39 + 38)


if __name__ == "__main__":
    unittest.main()
