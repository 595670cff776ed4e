"""Drafts read: the lines of a text, and behind a parting line those of the changes to it."""

from papertongue.changes import MOST_CHANGES, clash_row, is_change
from papertongue.changetexts import read_change
from papertongue.drafts import LEFT, OPEN, PARTING, TAKEN, draft_in
from papertongue.errors import NoText
from papertongue.reading import text_of, words_of
from papertongue.things import is_text


def read_draft(text):
    """The Draft of which the lines of a text tell."""
    if not is_text(text):
        raise NoText(0)
    lines = text.split("\n")
    parting = _parting_number(lines)
    elder = text_of(lines[:parting])
    if parting is None:
        raise NoText(len(lines))
    changes, states = _read_changes(elder.rows, lines, parting + 1)
    return draft_in(elder, tuple(changes), states)


def _parting_number(lines):
    """The number of the first line that parts the text from its changes; None without one."""
    for number, line in enumerate(lines):
        if words_of(line) == [PARTING]:
            return number
    return None


def _read_changes(rows, lines, first):
    """The changes to these ROWS of which the lines from the first on tell, and the states of these."""
    changes = []
    states = []
    for number in range(first, len(lines)):
        words = words_of(lines[number])
        if words:
            change = read_change(words[1:])
            if words[0] not in (OPEN, TAKEN, LEFT) or len(changes) == MOST_CHANGES or not is_change(rows, change):
                raise NoText(number)
            if words[0] == TAKEN and _clashes_with_taken(change, changes, states):
                raise NoText(number)
            changes.append(change)
            states.append(words[0])
    return changes, states


def _clashes_with_taken(change, changes, states):
    """Whether a change clashes with one of these that is taken."""
    taken = [other for other, state in zip(changes, states) if state == TAKEN]
    return any([clash_row(change[1], other[1]) is not None for other in taken])
