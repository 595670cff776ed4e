"""Where two documents part in print."""

from papertongue.documents import Document
from papertongue.errors import NoDocument, TooTall
from papertongue.printing import LEAST_HIGH, LEAST_WIDE, MOST_HIGH, MOST_WIDE, printed_by, unlike_place
from papertongue.showing import Showing


def apart(one, other):
    """(SIZE, PAGE, LINE) where two Documents first aren't alike in print; None where they are in all printings."""
    for place, thing in enumerate((one, other)):
        if type(thing) != Document:
            raise NoDocument(place)
    # A printing hangs on nothing but ROWS, so alike documents needn't be printed.
    if one == other:
        return None
    for kind, sizes in _sizes_of_kinds():
        # What a document shows is the same in all sizes of a KIND.
        showing, theirs = Showing(one, kind), Showing(other, kind)
        for size in sizes:
            place = _apart_in(showing, theirs, size)
            if place is not None:
                return (size,) + place
    return None


def _sizes_of_kinds():
    """Of each KIND all SIZEs, in their turn."""
    widths = list(range(LEAST_WIDE, MOST_WIDE + 1))
    heights = list(range(LEAST_HIGH, MOST_HIGH + 1))
    return [
        ("plain", [("plain",)]),
        ("screen", [("screen", width) for width in widths]),
        ("pages", [("pages", width, height) for width in widths for height in heights]),
    ]


def _apart_in(showing, theirs, size):
    """(PAGE, LINE) where two documents first aren't alike in a SIZE, both 0 where one is refused otherwise than the
    other; None where they are alike.
    """
    pages, row = _pages_of(showing, size)
    others, their_row = _pages_of(theirs, size)
    if row is not None or their_row is not None:
        return None if row == their_row else (0, 0)
    return unlike_place(pages, others)


def _pages_of(showing, size):
    """The pages of a printing and None, or None and the ROW by which it is refused."""
    try:
        return (printed_by(showing, size).pages, None)
    except TooTall as refusal:
        return (None, refusal.row)
