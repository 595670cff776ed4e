"""Printings of documents: on pages, on a screen, as plain text."""

from papertongue.documents import Document
from papertongue.errors import NoDocument, NoMark, NoSize
from papertongue.rounds import Round, first_sizes
from papertongue.showing import Showing
from papertongue.things import is_text, is_tuple, is_whole
from papertongue.words import origin_at

MOST_WIDE = 40
MOST_HIGH = 24
LEAST_WIDE = 24
LEAST_HIGH = 10


class Printing:
    """A document in print, told by `printed` alone, which never changes."""

    def __init__(self, rounds, last):
        self.size = last.size
        self.pages = last.page_lines()
        self.rounds = tuple(rounds)
        self.ends = tuple(last.ends)
        self.last_round = last

    def stands(self, name):
        """The number of the page, or line, where the mark of this NAME stands; None where nowhere."""
        if not is_text(name) or name not in self.last_round.showing.mark_numbers:
            raise NoMark(name)
        return self.last_round.mark_place(name)

    def __eq__(self, other):
        return isinstance(other, Printing) and self.size == other.size and self.pages == other.pages

    def __len__(self):
        return len(self.pages)

    def __str__(self):
        lines = []
        for number, page in enumerate(self.pages):
            if number > 0:
                lines.append("=" * self.size[1])
            lines.extend(page)
        return "\n".join(lines)

    def __repr__(self):
        return f"Printing({self.size[0]} {len(self.pages)})"


def printed(document, size):
    """The Printing of a Document in this SIZE."""
    if type(document) != Document:
        raise NoDocument(None)
    if not is_size(size):
        raise NoSize(size)
    return printed_by(Showing(document, size[0]), size)


def printed_by(showing, size):
    """The Printing in this SIZE of what a document shows in printings of its KIND."""
    sizes = first_sizes(showing)
    rounds = []
    while len(rounds) == 0 or sizes != rounds[-1]:
        rounds.append(sizes)
        last = Round(showing, size, sizes)
        sizes = last.next_sizes()
    return Printing(rounds, last)


def on_pages(document, *, width=MOST_WIDE, height=MOST_HIGH):
    """The Printing of a Document on pages."""
    return printed(document, ("pages", width, height))


def on_screen(document, *, width=MOST_WIDE):
    """The Printing of a Document on a screen."""
    return printed(document, ("screen", width))


def as_plain(document):
    """The Printing of a Document as plain text."""
    return printed(document, ("plain",))


def sign_source(printing, page, line, column):
    """What the sign at this place of a Printing shows; None where there is none."""
    pages = printing.pages
    is_there = is_whole(page, 1, len(pages)) and is_whole(line, 1, len(pages[page - 1]))
    if not is_there or not is_whole(column, 0, len(pages[page - 1][line - 1]) - 1):
        return None
    return origin_at(printing.last_round.pages[page - 1][line - 1], pages[page - 1][line - 1], column)


def unlike_place(pages, others):
    """(PAGE, LINE) of the first line that pages of two Printings don't both have alike; None where they are alike."""
    for page in range(max(len(pages), len(others))):
        lines = pages[page] if page < len(pages) else ()
        theirs = others[page] if page < len(others) else ()
        for line in range(max(len(lines), len(theirs))):
            if lines[line:line + 1] != theirs[line:line + 1]:
                return (page + 1, line + 1)
    return None


def is_size(thing):
    """Whether the thing is a SIZE."""
    if not is_tuple(thing) or len(thing) == 0 or not is_text(thing[0]):
        return False
    if thing[0] == "plain":
        return len(thing) == 1
    if thing[0] == "screen":
        return len(thing) == 2 and _is_wide(thing[1])
    return thing[0] == "pages" and len(thing) == 3 and _is_wide(thing[1]) and is_whole(thing[2], LEAST_HIGH, MOST_HIGH)


def _is_wide(thing):
    """Whether the thing is a WIDTH."""
    return is_whole(thing, LEAST_WIDE, MOST_WIDE)
