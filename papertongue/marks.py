"""Marks: which there are, to which ones TOKENs refer, what they stand in and where."""

from papertongue.parts import parted, tokens_of
from papertongue.tokens import PAIRS

AHEAD_OF_REFERENCES = ("#", "~", "&")
WITH_LABEL = ("head", "item", "figure", "table")


def twice_name(rows):
    """The NAME of the first mark that stands ahead already, or the word of a second `index` or `endnotes`."""
    marks = {}
    words = {}
    for row in rows:
        if row[0] in ("index", "endnotes"):
            if row[0] in words:
                return row[0]
            words[row[0]] = True
        for token in tokens_of(row) or ():
            if token[0] == "@":
                if token in marks:
                    return token[1:]
                marks[token] = True
    return None


def unmarked_name(rows):
    """The NAME of the first reference to no mark; None without one."""
    marks = {}
    names = []
    for row in rows:
        for token in tokens_of(row) or ():
            if token[0] == "@":
                marks[token[1:]] = True
            elif token[0] in AHEAD_OF_REFERENCES:
                names.append(token[1:])
    for name in names:
        if name not in marks:
            return name
    return None


def mark_place(rows, name):
    """The (ROW, TOKEN) of the mark of this NAME; None without one."""
    for at, row in enumerate(rows):
        for place, token in enumerate(tokens_of(row) or ()):
            if token == "@" + name:
                return (at, place)
    return None


def mark_numbers(rows, numbers):
    """For each mark's NAME the number of what it stands in; numbers are kept by (ROW, TOKEN)."""
    found = {}
    head = "-"
    table = None
    for at, row in enumerate(rows):
        own = numbers.get((at, None))
        if row[0] == "table":
            table = own
        elif row[0] == "cell":
            own = table
        _number_marks(found, numbers, at, row, head if own is None else own)
        if row[0] == "head":
            head = own
    return found


def _number_marks(found, numbers, at, row, own):
    """Add to what is found the numbers of the ROW's marks; own is that of those outside of notes."""
    tokens = tokens_of(row) or ()
    number = own
    for place, token in enumerate(tokens):
        if token in PAIRS:
            number = numbers[(at, place)]
        elif token in ("}", "]"):
            number = own
        elif token[0] == "@":
            found[token[1:]] = number


def mark_spots(rows, shown):
    """For each mark's NAME the spot of the word where it stands; of those that stand nowhere nothing."""
    found = {}
    for at in shown:
        tokens = tokens_of(rows[at])
        if tokens is not None:
            body, notes = parted(tokens)
            label = label_spot(at, None) if rows[at][0] in WITH_LABEL else None
            _find_spots(found, at, tokens, body, label)
            for bracket, inside in notes:
                _find_spots(found, at, tokens, inside, label_spot(at, bracket))
    return found


def label_spot(row, token):
    """The spot of the last word that stands ahead of those of a ROW, or of the note of this bracket."""
    return (row, token, "label")


def _find_spots(found, at, tokens, inside, label):
    """Add to what is found the spots of the marks among these tokens, which stand together behind the label."""
    last = label
    waiting = []
    for number in inside:
        token = tokens[number]
        if token[0] == "@":
            waiting.append(token[1:])
        else:
            last = (at, number)
            for name in waiting:
                found[name] = last
            waiting = []
    if last is not None:
        for name in waiting:
            found[name] = last
