"""Changes in words: how one is written, and read."""

from papertongue.reading import read_parts, read_row
from papertongue.rows import show_row

# The forms of the parts behind a CHANGE's word, as `read_parts` has them; of `add` the last is a ROW in words.
CHANGE_FORMS = {
    "put": ("place", "place", "rest"),
    "strike": ("place", "number", "number"),
    "style": ("place", "word"),
    "add": ("place", "rest"),
    "cut": ("place",),
    "move": ("place", "place"),
}


def show_change(change):
    """The HAND of a (HAND, CHANGE), and the CHANGE's word and parts, with blanks between."""
    hand, told = change
    if told[0] == "add":
        told = told[:2] + told[2]
    # A CHANGE's parts are written as those of a ROW are.
    return hand + " " + show_row(told)


def read_change(words):
    """The (HAND, CHANGE) of which the words tell, whether there may be such a one or not; None of none."""
    if len(words) < 2 or words[1] not in CHANGE_FORMS:
        return None
    parts = read_parts(words[2:], CHANGE_FORMS[words[1]])
    if parts is None:
        return None
    if words[1] == "add":
        new = read_row(parts[1])
        if new is None:
            return None
        parts = (parts[0], new)
    return (words[0], (words[1],) + parts)
