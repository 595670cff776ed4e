"""The checker: whether a claim is true and has its paper."""

from papertongue.changes import all_clashes, changed_text, refuse_changes
from papertongue.documents import Document
from papertongue.errors import NoChanges, NoInclude, NoMark, NoNumber, NoSize, NoStyle, NoText, NoTexts, Ring, TooMany
from papertongue.errors import TooTall, Twice
from papertongue.marks import mark_place
from papertongue.numbers import counted, number_of
from papertongue.printing import printed, sign_source, unlike_place
from papertongue.reading import read_text
from papertongue.things import is_same, is_text, is_tuple, is_whole


def _text_of(thing):
    """The Text whose plain form the thing is; None of what is none."""
    try:
        text = read_text(thing)
    except NoText:
        return None
    return text if is_same(thing, str(text)) else None


def _document_of(thing):
    """The Document that SOURCES make; None of what makes none."""
    if not is_tuple(thing):
        return None
    texts = []
    for named in thing:
        if not is_tuple(named) or len(named) != 2:
            return None
        # What is no plain form stays None, and so there are no TEXTS.
        texts.append((named[0], _text_of(named[1])))
    try:
        return Document(tuple(texts))
    except (NoTexts, NoInclude, Ring, TooMany, NoStyle, Twice, NoMark):
        return None


def _printing_of(sources, size, rounds):
    """The Printing of SOURCES in a SIZE; None where there is none or these aren't just its rounds."""
    document = _document_of(sources)
    if document is None:
        return None
    try:
        printing = printed(document, size)
    except (NoSize, TooTall):
        return None
    return printing if is_same(rounds, printing.rounds) else None


def _number_holds(parts, paper):
    sources, row, token, number = parts
    document = _document_of(sources)
    if document is None:
        return False
    try:
        made_by = counted(document, row, token)
    except NoNumber:
        return False
    return is_same(number, document.counting.numbers[(row, token)]) and is_same(paper, made_by)


def _mark_holds(parts, paper):
    sources, name, number = parts
    document = _document_of(sources)
    if document is None:
        return False
    try:
        told = number_of(document, name)
    except NoMark:
        return False
    return is_same(number, told) and is_same(paper, mark_place(document.rows, name))


def _printed_holds(parts, paper):
    sources, size, pages = parts
    printing = _printing_of(sources, size, paper)
    return printing is not None and is_same(pages, printing.pages)


def _ends_holds(parts, paper):
    sources, size, page, why = parts
    printing = _printing_of(sources, size, paper)
    if printing is None or not is_whole(page, 1, len(printing.ends)):
        return False
    return is_same(why, printing.ends[page - 1])


def _stands_holds(parts, paper):
    sources, size, name, place = parts
    printing = _printing_of(sources, size, paper)
    if printing is None:
        return False
    try:
        told = printing.stands(name)
    except NoMark:
        return False
    return is_same(place, told)


def _sign_holds(parts, paper):
    sources, size, page, line, column, what = parts
    printing = _printing_of(sources, size, paper)
    if printing is None:
        return False
    told = sign_source(printing, page, line, column)
    return told is not None and is_same(what, told)


def _apart_holds(parts, paper):
    sources, others, size, page, line = parts
    if not is_tuple(paper) or len(paper) != 2:
        return False
    printing = _printing_of(sources, size, paper[0])
    other = _printing_of(others, size, paper[1])
    if printing is None or other is None:
        return False
    return is_same((page, line), unlike_place(printing.pages, other.pages))


def _changed_rows(text, changes):
    """The ROWS of the Text that CHANGES are told of; None where it is none or these aren't such."""
    elder = _text_of(text)
    if elder is None:
        return None
    try:
        refuse_changes(elder.rows, changes)
    except NoChanges:
        return None
    return elder.rows


def _clash_holds(parts, paper):
    text, changes, one, other, row = parts
    if paper is not None or _changed_rows(text, changes) is None:
        return False
    return any([is_same((one, other, row), clash) for clash in all_clashes(changes)])


def _taken_holds(parts, paper):
    text, changes, numbers, newer = parts
    rows = _changed_rows(text, changes)
    if paper is not None or rows is None or not _go_together(changes, numbers):
        return False
    try:
        told = changed_text(rows, changes, numbers)
    except TooMany:
        return False
    return is_same(newer, str(told))


def _go_together(changes, numbers):
    """Whether these are numbers of CHANGES, rising, of which no two clash."""
    if not is_tuple(numbers) or not all([is_whole(number, 0, len(changes) - 1) for number in numbers]):
        return False
    if not all([one < other for one, other in zip(numbers, numbers[1:])]):
        return False
    return not any([one in numbers and other in numbers for one, other, _ in all_clashes(changes)])


# By a claim's word: how many parts it has behind it, and what must be so of these and the paper.
CLAIM_PARTS = {
    "number": 4, "mark": 3, "printed": 3, "ends": 4, "stands": 4, "sign": 6, "apart": 5, "clash": 5, "taken": 4,
}
CLAIM_RULES = {
    "number": _number_holds, "mark": _mark_holds, "printed": _printed_holds, "ends": _ends_holds,
    "stands": _stands_holds, "sign": _sign_holds, "apart": _apart_holds, "clash": _clash_holds, "taken": _taken_holds,
}


def holds(claim, paper):
    """Whether the claim is true and this is its paper; things of any kind may be handed in."""
    if not is_tuple(claim) or len(claim) == 0 or not is_text(claim[0]) or claim[0] not in CLAIM_RULES:
        return False
    rule = CLAIM_RULES[claim[0]]
    return len(claim) == 1 + CLAIM_PARTS[claim[0]] and rule(claim[1:], paper)
