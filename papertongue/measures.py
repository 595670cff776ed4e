"""By what a round lays words: a WIDTH, and the sizes of `~` and of the entries of the index."""

from papertongue.words import Line, Word, laid


class Measure:
    """The WIDTH and the sizes of a round, and the words and notes that come of them."""

    def __init__(self, showing, width, sizes):
        self.showing = showing
        self.width = width
        many = len(showing.places)
        # Words of just so many signs stand for the places, which aren't known ahead of the round.
        self.sized = {}
        for (spot, _), size in zip(showing.places, sizes[:many]):
            self.sized[spot] = Word("." * size, ("text",) + spot, spot)
        self.entry_sizes = sizes[many:]

    def words_of_row(self, row):
        """The Words of a ROW, those ahead of its TOKENS too."""
        return self._sized_words(self.showing.row_words[row])

    def lines_of_foot_note(self, place):
        """The lines of the foot note of this (ROW, TOKEN)."""
        return self.lines_of(place[0], self._sized_words(self.showing.foot_notes[place]))

    def lines_of_end_note(self, place):
        """The lines of the end note of this (ROW, TOKEN)."""
        return self.lines_of(place[0], self._sized_words(self.showing.end_notes[place]))

    def lines_of(self, row, words):
        """Lines of a ROW, the words in the whole WIDTH."""
        room = (0, self.width)
        return [Line(row, spans) for spans in laid(words, room, room)]

    def _sized_words(self, words):
        return [self.sized.get(word.spot, word) for word in words]
