"""What a document shows in the printings of one KIND, whatever the WIDTH."""

from papertongue.marks import label_spot, mark_spots
from papertongue.parts import NOTE_KINDS, parted, tokens_of
from papertongue.words import Word


class Showing:
    """The words of a document in the printings of one KIND."""

    def __init__(self, document, kind):
        self.kind = kind
        self.rows = document.rows
        self.shown = document.shown_in(kind)
        self.numbers = document.counting.numbers
        self.mark_numbers = document.mark_numbers
        self.mark_spots = mark_spots(self.rows, self.shown)
        # The Words of each ROW and, by (ROW, TOKEN), of each note, those ahead of its TOKENS too.
        self.row_words = {}
        self.foot_notes = {}
        self.end_notes = {}
        # The spots of `~` and `&` with the NAMEs of their marks, and those of each WORD of the index.
        self.places = []
        self.sides = []
        self.indexed = {}
        for at in self.shown:
            if tokens_of(self.rows[at]) is not None:
                self._show_row(at, tokens_of(self.rows[at]))
        self.entries = self._index_entries()

    def _show_row(self, at, tokens):
        body, called = parted(tokens)
        self.row_words[at] = self._words_ahead(at) + self._token_words(at, tokens, body)
        for bracket, inside in called:
            label = _label(self._note_call(at, bracket, tokens[bracket]), at, bracket)
            notes = self.foot_notes if tokens[bracket] == "{" else self.end_notes
            notes[(at, bracket)] = [label] + self._token_words(at, tokens, inside)
        for number, token in enumerate(tokens):
            self._keep_spot(token, (at, number))

    def _keep_spot(self, token, spot):
        """Keep the spot of a TOKEN that hangs on places, or on which the index does."""
        if token[0] == "~":
            self.places.append((spot, token[1:]))
        elif token[0] == "&":
            self.sides.append((spot, token[1:]))
        elif token[0] == "^":
            self.indexed.setdefault(token[1:], []).append(spot)

    def _words_ahead(self, at):
        """The Words that stand ahead of those of a ROW's TOKENS."""
        row = self.rows[at]
        number = self.numbers.get((at, None))
        if row[0] == "head":
            return [_label(number, at, None)]
        if row[0] == "item":
            return [_label("-" if number is None else number + ".", at, None)]
        if row[0] == "table":
            return [Word("Table", ("made", "number", at), None), _label(number + ".", at, None)]
        if row[0] == "figure":
            return [Word("Figure", ("made", "number", at), figure_spot(at)), _label(number + ".", at, None)]
        return []

    def _token_words(self, at, tokens, inside):
        """The Words that these tokens of a ROW show."""
        shown = [number for number in inside if tokens[number][0] != "@"]
        return [Word(self._signs(at, number, tokens[number]), ("text", at, number), (at, number)) for number in shown]

    def _signs(self, at, number, token):
        """The signs that a TOKEN shows; of `&` as many as in the end, of `~` one, as each round has sizes for these."""
        if token[0] == "^":
            return token[1:]
        if token[0] == "#":
            return self.mark_numbers[token[1:]]
        if token[0] == "~":
            return "."
        if token[0] == "&":
            return "below" if token[1:] in self.mark_spots else "-"
        if token in NOTE_KINDS:
            return self._note_call(at, number, token)
        return token

    def _note_call(self, at, number, token):
        """A note's number between the brackets that call it."""
        told = self.numbers[(at, number)]
        return f"({told})" if token == "{" else f"[{told}]"

    def _index_entries(self):
        """Of each entry of the index its WORD and the spots where this stands."""
        if not any([self.rows[at][0] == "index" for at in self.shown]):
            return []
        return [(word, self.indexed[word]) for word in sorted(list(self.indexed), key=_index_key)]


def figure_spot(row):
    """The spot of the word `Figure` of a figure."""
    return (row, None, "figure")


def _label(signs, row, token):
    """The last Word that stands ahead of those of a ROW, or of the note of this bracket."""
    return Word(signs, ("made", "number", row), label_spot(row, token))


def _index_key(word):
    """By what WORDs of the index rise."""
    return (word.lower(), word)
