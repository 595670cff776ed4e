"""Places: from the text to the print, and back."""

from papertongue.errors import NoPlace, NoPrinting
from papertongue.parts import tokens_of
from papertongue.printing import Printing
from papertongue.things import is_whole
from papertongue.words import origin_at


def shown(printing, row, token):
    """All PIECEs that show a TOKEN, or the text why it shows none."""
    _refuse_other(printing)
    showing = printing.last_round.showing
    if not is_whole(row, 0, len(showing.rows) - 1):
        raise NoPlace((row, token))
    tokens = tokens_of(showing.rows[row]) or ()
    if not is_whole(token, 0, len(tokens) - 1):
        raise NoPlace((row, token))
    if row not in showing.shown:
        return "hidden"
    if tokens[token][0] == "@":
        return "mark"
    if tokens[token] in ("}", "]"):
        return "close"
    return tuple(printing.last_round.pieces[(row, token)])


def source(printing, page, line, column):
    """What the sign at this place of a Printing shows."""
    _refuse_other(printing)
    pages = printing.pages
    is_there = is_whole(page, 1, len(pages)) and is_whole(line, 1, len(pages[page - 1]))
    if not is_there or not is_whole(column, 0, len(pages[page - 1][line - 1]) - 1):
        raise NoPlace((page, line, column))
    return origin_at(printing.last_round.pages[page - 1][line - 1], pages[page - 1][line - 1], column)


def _refuse_other(thing):
    """Refuse what is no Printing."""
    if type(thing) != Printing:
        raise NoPrinting(thing)
