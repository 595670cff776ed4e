"""Rounds: a document in print by sizes, and the sizes that it then wants."""

from papertongue.lists import PLACE_ROOM, index_signs
from papertongue.lumps import lumps_of
from papertongue.measures import Measure
from papertongue.onepage import NO_END, plain_of, screen_of
from papertongue.pages import pages_of
from papertongue.words import line_signs


def first_sizes(showing):
    """The sizes by which the first round prints."""
    return (1,) * (len(showing.places) + len(showing.entries))


class Round:
    """A document as it is printed by sizes: its pages of Lines, why each ends, and by spots the PIECEs of words."""

    def __init__(self, showing, size, sizes):
        self.showing = showing
        self.size = size
        self.sizes = sizes
        self.width = NO_END if showing.kind == "plain" else size[1]
        measure = Measure(showing, self.width, sizes)
        if showing.kind == "pages":
            self.pages, self.ends = pages_of(measure, lumps_of(measure), size[2])
        else:
            lines = plain_of(measure) if showing.kind == "plain" else screen_of(measure, lumps_of(measure))
            self.pages = [lines] if lines else []
            self.ends = [("end",)] if lines else []
        self.pieces = _pieces_of(self.pages)

    def place_of(self, spot):
        """The number of the page, or of the line where there is one page, where the word of a spot stands."""
        page, line, _, _ = self.pieces[spot][0]
        return page if self.showing.kind == "pages" else line

    def mark_place(self, name):
        """The number of the page, or line, where a mark stands; None where nowhere."""
        spot = self.showing.mark_spots.get(name)
        return None if spot is None else self.place_of(spot)

    def next_sizes(self):
        """The sizes by which the next round prints: the same ones where this is the last."""
        wanted = [len(self._place_signs(name)) for _, name in self.showing.places]
        for number in range(len(self.showing.entries)):
            wanted.append(len(self._index_signs(number)))
        return tuple([max(size, want) for size, want in zip(self.sizes, wanted)])

    def page_lines(self):
        """The pages as tuples of texts, where this is the last round."""
        said = self._said()
        return tuple([tuple([line_signs(line, said) for line in lines]) for lines in self.pages])

    def _place_signs(self, name):
        place = self.mark_place(name)
        return "-" if place is None else str(place)

    def _index_signs(self, number):
        """The lines of the entry of this number of the index."""
        word, spots = self.showing.entries[number]
        return index_signs(word, sorted(set([self.place_of(spot) for spot in spots])), self.width)

    def _said(self):
        """By spots the signs of the words that hang on places."""
        said = {}
        for (spot, name), size in zip(self.showing.places, self.sizes):
            said[spot] = self._place_signs(name).rjust(size, ".")
        for spot, name in self.showing.sides:
            said[spot] = self._side_signs(spot, name)
        wide = 0 if self.showing.kind == "plain" else PLACE_ROOM
        for spot in list(self.pieces):
            if spot[0] == "place":
                said[spot] = str(self.place_of(spot[1])).rjust(wide)
        for number in range(len(self.showing.entries)):
            for line, signs in enumerate(self._index_signs(number)):
                said[("index", number, line)] = signs
        return said

    def _side_signs(self, spot, name):
        """Whether a mark stands above or below the word of a spot."""
        told = self.showing.mark_spots.get(name)
        if told is None:
            return "-"
        return "above" if self.pieces[told][0] < self.pieces[spot][0] else "below"


def _pieces_of(pages):
    """By spots the PIECEs of the words, in their turn."""
    pieces = {}
    for page, lines in enumerate(pages, start=1):
        for number, line in enumerate(lines, start=1):
            for column, word, _, many in line.spans:
                if word.spot is not None:
                    pieces.setdefault(word.spot, []).append((page, number, column, column + many))
    return pieces
