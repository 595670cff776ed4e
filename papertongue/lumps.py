"""Lumps: lines that hang together."""

from papertongue.lists import end_entries, list_entries
from papertongue.rowlines import figure_lines, item_lines, para_lines, styles_of
from papertongue.tables import table_groups
from papertongue.words import empty_lines

MOST_TOGETHER = 3
LISTS = ("contents", "figures", "index", "endnotes")


class Lump:
    """Lines that hang together: of which kind they are (`head`, `figure` or `lines`), the ROW of the first, how many
    empty lines they want ahead, the lines of the foot notes called in them, and the last head of DEPTH 1 in them.

    A `break` stands among them as a Lump without lines.
    """

    def __init__(self, kind, row, before, lines):
        self.kind = kind
        self.row = row
        self.before = before
        self.lines = lines
        self.foot_lines = []
        self.top = None


def lumps_of(measure):
    """The Lumps of all ROWS that are shown, in their turn, and of the end notes behind them."""
    showing = measure.showing
    styles = styles_of(showing.rows)
    lumps = []
    has_end_notes = False
    for at in showing.shown:
        row = showing.rows[at]
        if row[0] in LISTS:
            lumps.extend(_entry_lumps(list_entries(measure, at)))
            has_end_notes = has_end_notes or row[0] == "endnotes"
        else:
            lumps.extend(_row_lumps(measure, at, row, styles))
    if not has_end_notes:
        lumps.extend(_entry_lumps(end_entries(measure)))
    return lumps


def _row_lumps(measure, at, row, styles):
    """The Lumps of a ROW that is no list."""
    if row[0] == "head":
        lump = Lump("head", at, 1, measure.lines_of(at, measure.words_of_row(at)))
        lump.top = at if row[1] == 1 else None
        return [lump]
    if row[0] == "para":
        style = styles[row[1]]
        return _with_notes(measure, _parted_lumps(at, style[2], para_lines(measure, at, style)))
    if row[0] == "item":
        return _with_notes(measure, _parted_lumps(at, 0, item_lines(measure, at, row[1])))
    if row[0] == "figure":
        return [Lump("figure", at, 1, figure_lines(measure, at, row[1]))]
    if row[0] == "table":
        return _table_lumps(measure, at)
    if row[0] == "break":
        return [Lump("break", at, 0, [])]
    return []


def _parted_lumps(row, before, lines):
    """The Lumps of an entry, a note, a paragraph or an item."""
    if len(lines) <= MOST_TOGETHER:
        parts = [lines] if lines else []
    else:
        parts = [lines[:2]] + [[line] for line in lines[2:-2]] + [lines[-2:]]
    return [Lump("lines", row, 0 if number else before, part) for number, part in enumerate(parts)]


def _entry_lumps(entries):
    """The Lumps of the entries of a list."""
    lumps = []
    for number, (row, lines) in enumerate(entries):
        lumps.extend(_parted_lumps(row, 0 if number else 1, lines))
    return lumps


def _table_lumps(measure, at):
    """The Lumps of a table: its caption's lines and those of its first row hang together."""
    caption = measure.lines_of(at, measure.words_of_row(at))
    first, *others = table_groups(measure, at)
    return [Lump("lines", at, 1, caption + first[1])] + [Lump("lines", row, 0, lines) for row, lines in others]


def _with_notes(measure, lumps):
    """The Lumps, each with the lines of the foot notes called in it."""
    for lump in lumps:
        for line in lump.lines:
            for _, word, offset, _ in line.spans:
                if offset == 0 and word.spot in measure.showing.foot_notes:
                    lump.foot_lines.extend(measure.lines_of_foot_note(word.spot))
    return lumps


def joined(lumps):
    """The Lumps, each head's one with the next, where neither a figure nor a `break` stands between."""
    found = []
    for lump in reversed(lumps):
        if lump.kind == "head" and found and found[-1].kind in ("head", "lines"):
            found.append(_together(lump, found.pop()))
        else:
            found.append(lump)
    return list(reversed(found))


def _together(head, behind):
    """A head's Lump and the one behind it as one."""
    lines = head.lines + empty_lines(behind.before) + behind.lines
    lump = Lump("head", head.row, head.before, lines)
    lump.foot_lines = behind.foot_lines
    lump.top = head.top if behind.top is None else behind.top
    return lump
