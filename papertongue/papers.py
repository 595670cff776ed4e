"""The house's papers: for each question the claim that is true, with its paper."""

from papertongue.apart import apart
from papertongue.errors import NoNumber, NoPlace
from papertongue.marks import mark_place
from papertongue.numbers import counted, number_of
from papertongue.places import source
from papertongue.printing import printed
from papertongue.things import is_same, is_whole


def paper_number(document, row, token=None):
    """That this number is so: what counted to it."""
    made_by = counted(document, row, token)
    number = document.counting.numbers[(row, token)]
    return (("number", _sources_of(document), row, token, number), made_by)


def paper_mark(document, name):
    """That the number of what a mark stands in is so: where the mark is."""
    number = number_of(document, name)
    return (("mark", _sources_of(document), name, number), mark_place(document.rows, name))


def paper_printed(document, size):
    """That these are the pages of a printing: its rounds, as in all papers of printings."""
    printing = printed(document, size)
    return (("printed", _sources_of(document), size, printing.pages), printing.rounds)


def paper_ends(document, size, page):
    """Why a page ends."""
    printing = printed(document, size)
    if not is_whole(page, 1, len(printing.ends)):
        raise NoPlace(page)
    return (("ends", _sources_of(document), size, page, printing.ends[page - 1]), printing.rounds)


def paper_stands(document, size, name):
    """Where a mark stands."""
    printing = printed(document, size)
    return (("stands", _sources_of(document), size, name, printing.stands(name)), printing.rounds)


def paper_sign(document, size, page, line, column):
    """What a sign shows."""
    printing = printed(document, size)
    what = source(printing, page, line, column)
    return (("sign", _sources_of(document), size, page, line, column, what), printing.rounds)


def paper_apart(one, other):
    """Where two Documents first aren't alike in print; None where they are, or where one is refused there."""
    told = apart(one, other)
    # Pages are told from 1, but for a size that is refused.
    if told is None or told[1] == 0:
        return None
    size, page, line = told
    claim = ("apart", _sources_of(one), _sources_of(other), size, page, line)
    return (claim, (printed(one, size).rounds, printed(other, size).rounds))


def paper_clash(draft, one, other):
    """That two changes of a Draft clash."""
    for clash in draft.clashes():
        if is_same((one, other), clash[:2]):
            return (("clash", str(draft.elder()), draft.changes) + clash, None)
    raise NoNumber((one, other))


def paper_taken(draft):
    """That the text of a Draft comes of what is taken."""
    newer = str(draft.text())
    return (("taken", str(draft.elder()), draft.changes, draft.taken_numbers(), newer), None)


def _sources_of(document):
    """The SOURCES of a Document."""
    return tuple([(name, str(text)) for name, text in document.texts])
