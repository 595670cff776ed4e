"""ROWs: which there are, and how one is written."""

from papertongue.things import is_text, is_tuple, is_whole
from papertongue.tokens import is_bare, is_name, is_tokens, show_tokens

# The form of each part behind a row's word: a number with its bounds, a choice with its texts,
# or what else it is by a word alone.
ROW_PARTS = {
    "style": (("name",), ("number", 0, 6), ("number", 0, 4), ("number", 0, 2), ("choice", "left", "right", "middle")),
    "counter": (
        ("choice", "head", "table", "figure", "foot", "end", "item"),
        ("choice", "1", "a", "A"),
        ("number", 0, 3),
    ),
    "head": (("number", 1, 3), ("bare",)),
    "para": (("style",), ("tokens",)),
    "item": (("number", 1, 3), ("choice", "dot", "num"), ("tokens",)),
    "figure": (("number", 1, 6), ("bare",)),
    "table": (("number", 1, 4), ("bare",)),
    "row": (),
    "cell": (("number", 1, 4), ("number", 1, 4), ("plain",)),
    "close": (),
    "contents": (("number", 1, 3),),
    "figures": (),
    "index": (),
    "endnotes": (),
    "break": (),
    "include": (("name",),),
    "when": (("choice", "pages", "screen", "plain"),),
    "done": (),
}
# Rows that stand ahead of all others and show nothing: they tell how others are shown and counted.
RULE_ROWS = ("style", "counter")


def is_row(thing):
    """Whether the thing is a ROW."""
    if not is_tuple(thing) or len(thing) == 0:
        return False
    word = thing[0]
    if not is_text(word) or word not in ROW_PARTS:
        return False
    forms = ROW_PARTS[word]
    if len(thing) != len(forms) + 1:
        return False
    if not all([_is_part(part, form) for part, form in zip(thing[1:], forms)]):
        return False
    return word != "counter" or _counts_within(thing[1], thing[3])


def _is_part(thing, form):
    """Whether the thing is a part of this form."""
    if form[0] == "number":
        return is_whole(thing, form[1], form[2])
    if form[0] == "choice":
        return is_text(thing) and thing in form[1:]
    if form[0] == "name":
        return is_name(thing)
    if form[0] == "style":
        return is_style(thing)
    if form[0] == "bare":
        return is_bare(thing)
    return is_tokens(thing, plain=form[0] == "plain")


def is_style(thing):
    """Whether the thing is a STYLE."""
    return is_name(thing) or is_text(thing) and thing == "-"


def _counts_within(kind, within):
    """Whether a counter of this KIND may have this WITHIN, a number from 0 to 3."""
    if kind == "head":
        return within > 0
    return kind != "item" or within == 0


def show_row(row):
    """The ROW's word and parts with blanks between."""
    words = [show_tokens(part) if is_tuple(part) else str(part) for part in row]
    return " ".join([word for word in words if word])
