"""The lines of heads, paragraphs, items and figures."""

from papertongue.words import Line, end_of, laid, made_word, whole_line

PLAIN_STYLE = (0, 0, 1, "left")
LABEL_ROOM = 5
DEPTH_ROOM = 2


def styles_of(rows):
    """(INDENT, FIRST, BEFORE, ALIGN) of each STYLE."""
    styles = {"-": PLAIN_STYLE}
    for row in rows:
        if row[0] == "style":
            styles[row[1]] = row[2:]
    return styles


def para_lines(measure, at, style):
    """The lines of a paragraph of this (INDENT, FIRST, BEFORE, ALIGN)."""
    indent, more, _, align = style
    others = (indent, measure.width - indent)
    first = (indent + more, measure.width - indent - more)
    lines = laid(measure.words_of_row(at), first, others)
    return [Line(at, _aligned(spans, align, measure.width)) for spans in lines]


def _aligned(spans, align, width):
    """The spans of a line that begins at its leftmost column, moved as ALIGN tells."""
    left = width - end_of(spans)
    if align == "left":
        return spans
    by = left if align == "right" else left // 2
    return [(column + by, word, offset, many) for column, word, offset, many in spans]


def item_lines(measure, at, depth):
    """The lines of an item of this DEPTH."""
    column = DEPTH_ROOM * (depth - 1)
    label, *words = measure.words_of_row(at)
    room = (column + LABEL_ROOM, measure.width - column - LABEL_ROOM)
    lines = laid(words, room, room)
    ahead = [(column, label, 0, len(label.signs))]
    first = ahead + lines[0] if lines else ahead
    return [Line(at, spans) for spans in [first] + lines[1:]]


def figure_lines(measure, at, many):
    """The lines of a figure of so many LINES."""
    picture = made_word(":" * measure.width, "picture", at)
    return [whole_line(at, picture) for _ in range(many)] + measure.lines_of(at, measure.words_of_row(at))
