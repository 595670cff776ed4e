"""Changes by chance, and a second way to reckon what comes of changes, to hold the program's own against."""

import random

from papertongue.texts import Text

from randoms import random_rows

MOVING = ("head", "para", "item", "figure", "contents", "figures", "break", "include")
EDITED = ("head", "para", "item", "cell")
RULES = ("style", "counter")
HANDS = ["anna", "bob", "c"]
NEW_ROWS = [
    ("head", 1, ()), ("head", 3, ("New", "@zz")), ("para", "-", ("new",)), ("para", "s", ()), ("item", 2, "num", ("x",)),
    ("item", 1, "dot", ("{", "y", "}")), ("figure", 6, ("w",)), ("contents", 2), ("figures",), ("break",),
    ("include", "other"),
]


class TooManyThere(Exception):
    """A row has too many tokens, or a text too many rows."""


def random_text(number, rows=12, long=8):
    """A Text by chance, of at most eighty rows."""
    made = random_rows(number, rows=rows, long=long)
    while len(made) > 80:
        rows -= 5
        made = random_rows(number, rows=rows, long=long)
    return Text(made)


def places_behind(rows):
    """The places behind which a row may come."""
    return [-1] + [at for at, row in enumerate(rows) if row[0] not in RULES + ("table", "row", "cell")]


def random_change(chance, rows):
    """A CHANGE by chance, None where it finds none."""
    word = chance.choice(["put", "put", "strike", "strike", "style", "add", "cut", "move"])
    if word == "add":
        return ("add", chance.choice(places_behind(rows)), chance.choice(NEW_ROWS))
    kinds = {"put": EDITED, "strike": EDITED, "style": ("para",)}.get(word, MOVING)
    found = [at for at, row in enumerate(rows) if row[0] in kinds]
    if not found:
        return None
    # Few rows, so that changes come together.
    row = chance.choice(found[:6])
    if word == "cut":
        return ("cut", row)
    if word == "move":
        return ("move", row, chance.choice(places_behind(rows)))
    if word == "style":
        return ("style", row, chance.choice(["-", "s", "t"]))
    return random_edit(chance, word, row, rows[row])


def random_edit(chance, word, at, row):
    """A `put` or a `strike` by chance of the row of this number."""
    tokens = row[-1]
    if word == "put":
        words = ["a", "^b", "#c", "@d"] + ([] if row[0] == "head" else ["~e", "&f"])
        return ("put", at, chance.randint(0, len(tokens)), tuple(chance.choices(words, k=chance.randint(1, 4))))
    spans = [
        (first, behind) for first in range(len(tokens)) for behind in range(first + 1, len(tokens) + 1)
        if are_in_pairs(tokens[first:behind])]
    return ("strike", at, *chance.choice(spans)) if spans else None


def are_in_pairs(tokens):
    """Whether the brackets among tokens are in pairs."""
    found = "".join(token for token in tokens if token in ("{", "}", "[", "]"))
    while "{}" in found or "[]" in found:
        found = found.replace("{}", "").replace("[]", "")
    return found == ""


def random_changes(number, rows, most=24):
    """CHANGES by chance."""
    chance = random.Random(number)
    made = [random_change(chance, rows) for _ in range(chance.randint(0, most))]
    return tuple((chance.choice(HANDS), change) for change in made if change is not None)


def clash(one, other):
    """The ROW of two CHANGES that clash, None where they don't."""
    if "add" in (one[0], other[0]) or one[1] != other[1]:
        return None
    words = {one[0], other[0]}
    if words == {"put", "strike"}:
        put, strike = (one, other) if one[0] == "put" else (other, one)
        return one[1] if strike[2] < put[2] < strike[3] else None
    if words in ({"move"}, {"style"}):
        return None if one == other else one[1]
    return one[1] if "cut" in words and len(words) == 2 else None


def clashes(changes):
    """All clashes of CHANGES."""
    found = set()
    for one, (_, told) in enumerate(changes):
        for other, (_, others) in enumerate(changes):
            if one < other and clash(told, others) is not None:
                found.add((one, other, told[1]))
    return tuple(sorted(found))


def together(chance, changes):
    """Numbers of changes by chance of which no two clash."""
    found = []
    for number in chance.sample(range(len(changes)), len(changes)):
        if chance.random() < 0.8 and all(clash(changes[number][1], changes[one][1]) is None for one in found):
            found.append(number)
    return found


def changed_rows(rows, changes, numbers):
    """The rows by the changes of these numbers: each row by a key that tells its place among all."""
    taken = sorted(numbers)
    first = len([row for row in rows if row[0] in RULES])
    keys = {}
    for at, row in enumerate(rows):
        keys[(at, -1)] = changed_row(at, row, changes, taken)
    for number in taken:
        change = changes[number][1]
        if change[0] == "add":
            keys[(first - 1 if change[1] == -1 else change[1], number)] = change[2]
        if change[0] in ("cut", "move"):
            moved = keys.pop((change[1], -1), None)
            if change[0] == "move" and moved is not None:
                keys[(first - 1 if change[2] == -1 else change[2], number)] = moved
    made = tuple(keys[key] for key in sorted(keys))
    if len(made) > 80:
        raise TooManyThere(len(made))
    for row in made:
        if row[0] in EDITED and len(row[-1]) > 40:
            raise TooManyThere(len(row[-1]))
    return made


def changed_row(at, row, changes, taken):
    """The row of this number by its own changes."""
    if row[0] not in EDITED:
        return row
    # Signs by keys: a token's own behind all that is put ahead of it.
    keys = {(number, 100): token for number, token in enumerate(row[-1])}
    for number in taken:
        change = changes[number][1]
        if change[0] == "style" and change[1] == at:
            row = ("para", change[2], row[2])
        if change[0] == "strike" and change[1] == at:
            for place in range(change[2], change[3]):
                keys.pop((place, 100), None)
    for number in taken:
        change = changes[number][1]
        if change[0] == "put" and change[1] == at:
            for place, token in enumerate(change[3]):
                keys[(change[2], number, place)] = token
    return row[:-1] + (tuple(keys[key] for key in sorted(keys)),)
