"""The one page of a screen, and that of a plain text."""

from papertongue.lists import end_entries, index_line, place_entries
from papertongue.pages import rule_line
from papertongue.tables import row_cells
from papertongue.words import Line, empty_lines, end_of, laid, made_word

# More signs than a line has where nothing is cut.
NO_END = 1000000
BETWEEN_CELLS = " | "


def screen_of(measure, lumps):
    """The lines of a screen."""
    lines = []
    for lump in lumps:
        if lines:
            lines.extend(empty_lines(lump.before))
        lines.extend(lump.lines)
    if measure.showing.foot_notes:
        lines.append(rule_line())
    for place in measure.showing.foot_notes:
        lines.extend(measure.lines_of_foot_note(place))
    return lines


def plain_of(measure):
    """The lines of a plain text, whose measure has the WIDTH NO_END."""
    showing = measure.showing
    lines = []
    has_end_notes = False
    for at in showing.shown:
        word = showing.rows[at][0]
        if word in ("contents", "figures"):
            lines.extend([_entry_line(at, entry) for entry in place_entries(showing, at)])
        elif word == "index":
            lines.extend([index_line(measure, at, number, 0) for number in range(len(showing.entries))])
        elif word == "endnotes":
            lines.extend(_end_lines(measure))
            has_end_notes = True
        elif word == "table":
            lines.extend(_table_lines(measure, at))
        elif word in ("head", "para", "item", "figure"):
            lines.extend(_row_lines(measure, at))
    if not has_end_notes:
        lines.extend(_end_lines(measure))
    return lines


def _row_lines(measure, at):
    """The line of a ROW, none without words, and those of its foot notes."""
    words = measure.words_of_row(at)
    lines = measure.lines_of(at, words)
    for word in words:
        if word.spot in measure.showing.foot_notes:
            lines.extend(measure.lines_of_foot_note(word.spot))
    return lines


def _entry_line(at, entry):
    """The line of an entry of contents or figures."""
    room = (0, NO_END)
    return Line(at, laid(entry.words + [entry.place], room, room)[0])


def _end_lines(measure):
    """The lines of the end notes."""
    found = []
    for _, lines in end_entries(measure):
        found.extend(lines)
    return found


def _table_lines(measure, at):
    """The lines of a table: its caption's, and of each row that has cells one, where it has a sign."""
    found = measure.lines_of(at, measure.words_of_row(at))
    for number, cells in row_cells(measure.showing.rows, at):
        spans = []
        for place, (row, _, _, _) in enumerate(cells):
            if place > 0:
                between = made_word(BETWEEN_CELLS, "fill", number)
                spans.append((end_of(spans) if spans else 0, between, 0, len(BETWEEN_CELLS)))
            spans.extend(_cell_spans(measure, row, end_of(spans) if spans else 0))
        if spans:
            found.append(Line(number, spans))
    return found


def _cell_spans(measure, row, column):
    """The spans of a cell's words from this column on."""
    room = (column, NO_END)
    lines = laid(measure.words_of_row(row), room, room)
    return lines[0] if lines else []
