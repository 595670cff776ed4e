"""Places: from the text to the print, and back."""

from papertongue.errors import NoPlace, NoPrinting
from papertongue.parts import tokens_of
from papertongue.printing import Printing, sign_source
from papertongue.things import is_whole


def shown(printing, row, token):
    """All PIECEs that show a TOKEN, or the text why it shows none."""
    _refuse_other(printing)
    showing = printing.last_round.showing
    if not is_whole(row, 0, len(showing.rows) - 1):
        raise NoPlace((row, token))
    tokens = tokens_of(showing.rows[row]) or ()
    if not is_whole(token, 0, len(tokens) - 1):
        raise NoPlace((row, token))
    if row not in showing.shown:
        return "hidden"
    if tokens[token][0] == "@":
        return "mark"
    if tokens[token] in ("}", "]"):
        return "close"
    return tuple(printing.last_round.pieces[(row, token)])


def source(printing, page, line, column):
    """What the sign at this place of a Printing shows."""
    _refuse_other(printing)
    told = sign_source(printing, page, line, column)
    if told is None:
        raise NoPlace((page, line, column))
    return told


def _refuse_other(thing):
    """Refuse what is no Printing."""
    if type(thing) != Printing:
        raise NoPrinting(thing)
