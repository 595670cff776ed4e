"""The TOKENS of ROWs: what of them stands in the ROW itself, and what in its notes."""

from papertongue.tokens import PAIRS

WITH_TOKENS = ("head", "para", "item", "figure", "table", "cell")
NOTE_KINDS = {"{": "foot", "[": "end"}


def tokens_of(row):
    """The TOKENS of the ROW, None of one that has none."""
    return row[-1] if row[0] in WITH_TOKENS else None


def parted(tokens):
    """The numbers of the tokens of the ROW itself; and of each note its bracket's and those of the tokens within.

    The brackets that end notes, which show nothing, are among neither.
    """
    body = []
    notes = []
    inside = None
    for number, token in enumerate(tokens):
        if token in PAIRS:
            body.append(number)
            inside = []
            notes.append((number, inside))
        elif token in ("}", "]"):
            inside = None
        elif inside is None:
            body.append(number)
        else:
            inside.append(number)
    return body, notes
