"""Documents: TEXTS that stand in each other, and the ROWS that come of them."""

from papertongue.counting import Counting
from papertongue.errors import NoInclude, NoKind, NoMark, NoRows, NoStyle, NoTexts, Ring, TooMany, Twice
from papertongue.includes import count_rows, missing_name, ring_name, rows_of
from papertongue.marks import mark_numbers, twice_name, unmarked_name
from papertongue.rows import RULE_ROWS, show_row
from papertongue.texts import Text
from papertongue.things import is_text, is_tuple
from papertongue.tokens import is_name

MOST_TEXTS = 6
MOST_DOCUMENT_ROWS = 160
KINDS = ("pages", "screen", "plain")


def document_of(text):
    """The Document of a Text alone."""
    if not _is_made_text(text):
        raise NoRows(None)
    return Document((("main", text),))


class Document:
    """Texts that stand together as one, which never changes."""

    def __init__(self, texts):
        _refuse_texts(texts)
        _refuse_includes(texts)
        rows = rows_of(texts)
        _refuse_rows(rows)
        self.texts = texts
        self.rows = rows
        self.counting = Counting(rows)
        self.mark_numbers = mark_numbers(rows, self.counting.numbers)

    def shown_in(self, kind):
        """The numbers of ROWS that are shown in printings of this KIND."""
        if not is_text(kind) or kind not in KINDS:
            raise NoKind(kind)
        found = []
        whens = []
        for at, row in enumerate(self.rows):
            if row[0] == "when":
                whens.append(row[1])
            elif row[0] == "done":
                whens.pop()
            elif row[0] not in RULE_ROWS and all([told == kind for told in whens]):
                found.append(at)
        return tuple(found)

    def __eq__(self, other):
        return isinstance(other, Document) and self.rows == other.rows

    def __len__(self):
        return len(self.rows)

    def __str__(self):
        return "\n".join([show_row(row) for row in self.rows])

    def __repr__(self):
        return f"Document({len(self.rows)})"


def _is_made_text(thing):
    """Whether the thing is a Text."""
    return type(thing) == Text


def _refuse_texts(texts):
    """Refuse a thing that isn't TEXTS."""
    if not is_tuple(texts) or not 1 <= len(texts) <= MOST_TEXTS:
        raise NoTexts(None)
    names = []
    for place, named in enumerate(texts):
        if not is_tuple(named) or len(named) != 2 or not is_name(named[0]) or not _is_made_text(named[1]):
            raise NoTexts(place)
        if named[0] in names or place > 0 and any([row[0] in RULE_ROWS for row in named[1].rows]):
            raise NoTexts(place)
        names.append(named[0])


def _refuse_includes(texts):
    """Refuse TEXTS that don't stand in each other so that ROWS come of them."""
    name = missing_name(texts)
    if name is not None:
        raise NoInclude(name)
    name = ring_name(texts)
    if name is not None:
        raise Ring(name)
    many = count_rows(texts)
    if many > MOST_DOCUMENT_ROWS:
        raise TooMany(many)


def _refuse_rows(rows):
    """Refuse ROWS whose styles and marks don't go together."""
    styles = [row[1] for row in rows if row[0] == "style"]
    for row in rows:
        if row[0] == "para" and row[1] != "-" and row[1] not in styles:
            raise NoStyle(row[1])
    name = twice_name(rows)
    if name is not None:
        raise Twice(name)
    name = unmarked_name(rows)
    if name is not None:
        raise NoMark(name)
