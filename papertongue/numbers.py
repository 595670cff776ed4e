"""Numbers of a document: all of them, what counted to one, and those of marks."""

from papertongue.documents import Document
from papertongue.errors import NoDocument, NoMark, NoNumber
from papertongue.things import is_text, is_whole
from papertongue.tokens import MOST_TOKENS


def numbers(document):
    """All numbers of the Document: a tuple of (ROW, TOKEN, KIND, NUMBER)."""
    _refuse_other(document)
    counting = document.counting
    return tuple([place + (counting.kinds[place], number) for place, number in counting.numbers.items()])


def counted(document, row, token=None):
    """The (ROW, TOKEN)s that made the count of this number since it was 0, itself last."""
    _refuse_other(document)
    place = (row, token)
    # True is no 1, and some things can't be sought in a dict.
    is_place = is_whole(row, 0, len(document.rows) - 1) and (token is None or is_whole(token, 0, MOST_TOKENS - 1))
    if not is_place or place not in document.counting.numbers:
        raise NoNumber(place)
    return document.counting.made_by(row, token)


def number_of(document, name):
    """The number of what the mark of this NAME stands in."""
    _refuse_other(document)
    if not is_text(name) or name not in document.mark_numbers:
        raise NoMark(name)
    return document.mark_numbers[name]


def _refuse_other(thing):
    """Refuse what is no Document."""
    if type(thing) != Document:
        raise NoDocument(None)
