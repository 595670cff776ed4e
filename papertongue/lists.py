"""Lists: the entries of contents, figures, index and end notes, and their lines."""

from papertongue.marks import label_spot
from papertongue.rowlines import DEPTH_ROOM
from papertongue.showing import figure_spot
from papertongue.words import Line, Word, end_of, laid, line_signs, made_word

PLACE_ROOM = 5
ROOM_BEHIND = 8
INDEX_LEAD = 2


class Entry:
    """An entry of contents or figures, made by a ROW; what it tells of stands at the spot."""

    def __init__(self, row, depth, words, spot):
        self.depth = depth
        self.words = [made_word(word.signs, "list", row) for word in words]
        # How many signs the number of the place has isn't known ahead of the round.
        self.place = Word("." * PLACE_ROOM, ("made", "list", row), ("place", spot))


def place_entries(showing, at):
    """The Entries of the `contents` or `figures` row of this number."""
    row = showing.rows[at]
    found = []
    for told in showing.shown:
        other = showing.rows[told]
        if row[0] == "contents" and other[0] == "head" and other[1] <= row[1]:
            found.append(Entry(at, other[1], showing.row_words[told], label_spot(told, None)))
        if row[0] == "figures" and other[0] == "figure":
            # All words but the first, which is `Figure`.
            found.append(Entry(at, 1, showing.row_words[told][1:], figure_spot(told)))
    return found


def list_entries(measure, at):
    """(ROW, LINES) of each entry of a ROW that is a list."""
    word = measure.showing.rows[at][0]
    if word == "endnotes":
        return end_entries(measure)
    if word == "index":
        return [(at, _index_lines(measure, at, number)) for number in range(len(measure.entry_sizes))]
    return [(at, _entry_lines(measure, at, entry)) for entry in place_entries(measure.showing, at)]


def end_entries(measure):
    """(ROW, LINES) of each end note."""
    return [(place[0], measure.lines_of_end_note(place)) for place in measure.showing.end_notes]


def _entry_lines(measure, at, entry):
    """The lines of an entry of contents or figures."""
    column = DEPTH_ROOM * (entry.depth - 1)
    room = (column, measure.width - column - ROOM_BEHIND)
    lines = laid(entry.words, room, room)
    end = end_of(lines[-1])
    place = measure.width - PLACE_ROOM
    dots = made_word("." * (place - end), "list", at)
    lines[-1].extend([(end, dots, 0, place - end), (place, entry.place, 0, PLACE_ROOM)])
    return [Line(at, spans) for spans in lines]


def _index_lines(measure, at, number):
    """The lines of the entry of this number of an index, as many as its size tells."""
    return [index_line(measure, at, number, line) for line in range(measure.entry_sizes[number])]


def index_line(measure, at, number, line):
    """A line of an entry of an index, whose signs aren't known ahead of the round."""
    word = Word("", ("made", "list", at), ("index", number, line))
    return Line(at, [(0, word, 0, measure.width)])


def index_signs(word, places, width):
    """The lines of an entry of an index as texts, where its WORD stands at these places."""
    signs = [word] + [str(place) + "," for place in places[:-1]] + [str(places[-1])]
    words = [made_word(told, "list", None) for told in signs]
    lines = laid(words, (0, width), (INDEX_LEAD, width - INDEX_LEAD))
    return [line_signs(Line(None, spans), {}) for spans in lines]
