"""The rules of changes: what a change to a text is, which clash, and the text that comes of them."""

from papertongue.errors import NoChanges, TooMany
from papertongue.rows import RULE_ROWS, is_row, is_style
from papertongue.texts import MOST_ROWS, Text
from papertongue.things import is_text, is_tuple, is_whole
from papertongue.tokens import MOST_TOKENS, is_bare, is_name, is_tokens

MOST_CHANGES = 24
# As a place behind which a row comes: ahead of all but `style` and `counter` rows.
AHEAD_OF_ALL = -1
# What may be cut, moved and added; and what has TOKENs that may be put in and struck.
MOVING_ROWS = ("head", "para", "item", "figure", "contents", "figures", "break", "include")
TOKEN_ROWS = ("head", "para", "item", "cell")
# Rows behind which none comes, so that rules stay ahead of all and nothing else stands in a table.
NEVER_BEHIND = ("style", "counter", "table", "row", "cell")


def _is_put(rows, parts):
    row, gap, tokens = parts
    if not _is_row_of(rows, row, TOKEN_ROWS) or not is_whole(gap, 0, len(rows[row][-1])):
        return False
    if not is_tokens(tokens, plain=True) or len(tokens) == 0:
        return False
    return rows[row][0] != "head" or is_bare(tokens)


def _is_strike(rows, parts):
    row, first, behind = parts
    if not _is_row_of(rows, row, TOKEN_ROWS):
        return False
    tokens = rows[row][-1]
    if not is_whole(first, 0, len(tokens) - 1) or not is_whole(behind, first + 1, len(tokens)):
        return False
    return is_tokens(tokens[first:behind])


def _is_restyling(rows, parts):
    row, style = parts
    return _is_row_of(rows, row, ("para",)) and is_style(style)


def _is_adding(rows, parts):
    row, new = parts
    return _is_place(rows, row) and is_row(new) and new[0] in MOVING_ROWS


def _is_cut(rows, parts):
    return _is_row_of(rows, parts[0], MOVING_ROWS)


def _is_move(rows, parts):
    row, behind = parts
    return _is_row_of(rows, row, MOVING_ROWS) and _is_place(rows, behind)


def _is_row_of(rows, thing, kinds):
    """Whether the thing is the number of a row of these kinds."""
    return is_whole(thing, 0, len(rows) - 1) and rows[thing][0] in kinds


def _is_place(rows, thing):
    """Whether the thing tells of a place behind which a row may come."""
    if not is_whole(thing, AHEAD_OF_ALL, len(rows) - 1):
        return False
    return thing == AHEAD_OF_ALL or rows[thing][0] not in NEVER_BEHIND


# By a CHANGE's word: how many parts it has behind it, and what these must be.
CHANGE_PARTS = {"put": 3, "strike": 3, "style": 2, "add": 2, "cut": 1, "move": 2}
CHANGE_RULES = {
    "put": _is_put, "strike": _is_strike, "style": _is_restyling, "add": _is_adding, "cut": _is_cut, "move": _is_move,
}


def refuse_changes(rows, thing):
    """Refuse a thing that isn't CHANGES to a text of these ROWS."""
    if not is_tuple(thing) or len(thing) > MOST_CHANGES:
        raise NoChanges(None)
    for place, change in enumerate(thing):
        if not is_change(rows, change):
            raise NoChanges(place)


def is_change(rows, thing):
    """Whether the thing is (HAND, CHANGE) to a text of these ROWS."""
    if not is_tuple(thing) or len(thing) != 2 or not is_name(thing[0]):
        return False
    change = thing[1]
    if not is_tuple(change) or len(change) == 0 or not is_text(change[0]) or change[0] not in CHANGE_RULES:
        return False
    rule = CHANGE_RULES[change[0]]
    return len(change) == 1 + CHANGE_PARTS[change[0]] and rule(rows, change[1:])


def clash_row(one, other):
    """The ROW at which two CHANGEs clash; None where they go together."""
    if "add" in (one[0], other[0]) or one[1] != other[1]:
        return None
    return one[1] if _breaks(one, other) or _breaks(other, one) else None


def _breaks(one, other):
    """Whether of two CHANGEs at a ROW the one can't stand with the other, as far as this is told of the one."""
    if one[0] == "cut":
        return other[0] != "cut"
    if one[0] == "put":
        return other[0] == "strike" and other[2] < one[2] < other[3]
    return one[0] in ("move", "style") and other[0] == one[0] and other[2] != one[2]


def all_clashes(changes):
    """All (ONE, OTHER, ROW) of CHANGES that clash, rising."""
    found = []
    for one in range(len(changes)):
        for other in range(one + 1, len(changes)):
            row = clash_row(changes[one][1], changes[other][1])
            if row is not None:
                found.append((one, other, row))
    return tuple(found)


def changed_text(rows, changes, numbers):
    """The Text of these ROWS by the CHANGES of these numbers, rising, of which no two clash."""
    taken = [changes[number][1] for number in numbers]
    made = _placed_rows([_edited_row(at, row, taken) for at, row in enumerate(rows)], taken)
    if len(made) > MOST_ROWS:
        raise TooMany(len(made))
    for row in made:
        if row[0] in TOKEN_ROWS and len(row[-1]) > MOST_TOKENS:
            raise TooMany(len(row[-1]))
    return Text(tuple(made))


def _edited_row(at, row, taken):
    """The row of this number by those changes that are of its TOKENS and its STYLE."""
    if row[0] not in TOKEN_ROWS:
        return row
    own = [change for change in taken if change[1] == at]
    for change in own:
        if change[0] == "style":
            row = ("para", change[2], row[2])
    return row[:-1] + (_edited_tokens(row[-1], own),)


def _edited_tokens(tokens, own):
    """The TOKENS by the `put`s and `strike`s among a row's own changes, all at places of the elder ones."""
    made = []
    for gap in range(len(tokens) + 1):
        for change in own:
            if change[0] == "put" and change[2] == gap:
                made.extend(change[3])
        is_struck = any([change[0] == "strike" and change[2] <= gap < change[3] for change in own])
        if gap < len(tokens) and not is_struck:
            made.append(tokens[gap])
    return tuple(made)


def _placed_rows(rows, taken):
    """The rows in their turn by those changes that add, cut and move."""
    behind = {}
    gone = {}
    for change in taken:
        if change[0] == "add":
            behind.setdefault(change[1], []).append(change[2])
        elif change[0] == "cut":
            gone[change[1]] = True
        # Of two alike moves of a row the lesser has it gone already.
        elif change[0] == "move" and change[1] not in gone:
            gone[change[1]] = True
            behind.setdefault(change[2], []).append(rows[change[1]])
    made = [row for row in rows if row[0] in RULE_ROWS] + behind.get(AHEAD_OF_ALL, [])
    for at, row in enumerate(rows):
        if row[0] not in RULE_ROWS and at not in gone:
            made.append(row)
        made.extend(behind.get(at, []))
    return made
