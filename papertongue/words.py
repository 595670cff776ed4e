"""Words as they are laid, and lines of them."""


class Word:
    """A word to be laid.

    Its origin is ("text", ROW, TOKEN) or ("made", WORD, ROW); under its spot its place in print is kept, and the signs
    that it has in the end where these hang on places: None where nobody asks for its place.
    """

    def __init__(self, signs, origin, spot):
        self.signs = signs
        self.origin = origin
        self.spot = spot


class Line:
    """A line of print: the ROW whose it is, and spans (COLUMN, WORD, OFFSET, HOW MANY SIGNS) by columns."""

    def __init__(self, row, spans):
        self.row = row
        self.spans = spans


def made_word(signs, sort, row):
    """A word that a ROW makes and for whose place nobody asks."""
    return Word(signs, ("made", sort, row), None)


def whole_line(row, word):
    """A line of one word alone."""
    return Line(row, [(0, word, 0, len(word.signs))])


def empty_lines(many):
    """So many lines without signs."""
    return [Line(None, []) for _ in range(many)]


def end_of(spans):
    """The column behind the last of these spans."""
    column, _, _, many = spans[-1]
    return column + many


def line_signs(line, said):
    """The signs of a line; said tells, by spots, those of words that hang on places."""
    signs = ""
    for column, word, offset, many in line.spans:
        signs = signs.ljust(column) + said.get(word.spot, word.signs)[offset:offset + many]
    return signs.rstrip(" ")


def origin_at(line, signs, column):
    """What a sign of a line shows; signs are all of the line's, in the end."""
    # No word has blanks; those of a top or a list stand between words.
    if signs[column] == " ":
        return ("made", "fill", line.row)
    for first, word, offset, many in line.spans:
        if first <= column < first + many:
            return word.origin + (offset + column - first,) if word.origin[0] == "text" else word.origin
    return None


def laid(words, first, others):
    """The words in lines, the spans of each; first and others are (COLUMN, ROOM) of the first line and all others."""
    lines = []
    spans = []
    used = 0
    column, room = first
    for word in words:
        left = len(word.signs)
        if spans and used + 1 + left > room:
            lines.append(spans)
            spans = []
            used = 0
            column, room = others
        if spans:
            used += 1
        offset = 0
        # A word that stands behind others has room, so only one in an empty line is cut.
        while left > room:
            lines.append([(column, word, offset, room)])
            offset += room
            left -= room
            column, room = others
        spans.append((column + used, word, offset, left))
        used += left
    if spans:
        lines.append(spans)
    return lines
