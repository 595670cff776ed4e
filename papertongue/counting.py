"""Counts of ROWS: heads, tables, figures, notes and items, and how a count is written."""

from papertongue.parts import NOTE_KINDS, tokens_of
from papertongue.tokens import SMALL_LETTERS

MOST_DEPTH = 3


def write_count(count, form):
    """A count from 0 on, written by its FORM."""
    if form == "1" or count == 0:
        return str(count)
    signs = ""
    left = count
    while left > 0:
        left -= 1
        signs = SMALL_LETTERS[left % len(SMALL_LETTERS)] + signs
        left //= len(SMALL_LETTERS)
    return signs.upper() if form == "A" else signs


class Count:
    """One count: the (ROW, TOKEN)s that made it since it was 0."""

    def __init__(self):
        self.made = []

    def begin(self):
        """Make it 0."""
        self.made = []

    def written(self, form):
        """The count by its FORM."""
        return write_count(len(self.made), form)


class Counting:
    """All numbers of ROWS, kept by (ROW, TOKEN) in their turn."""

    def __init__(self, rows):
        self.head_forms = ["1"] * MOST_DEPTH
        self.rules = {"table": ("1", 0), "figure": ("1", 0), "foot": ("1", 0), "end": ("1", 0), "item": ("1", 0)}
        self.heads = [Count() for _ in range(MOST_DEPTH)]
        self.item_counts = [Count() for _ in range(MOST_DEPTH)]
        self.others = {kind: Count() for kind in ("table", "figure", "foot", "end")}
        self.kinds = {}
        self.numbers = {}
        # What made a count grows as more is counted: of a number only so many of it are its own.
        self.made = {}
        for at, row in enumerate(rows):
            self._count_row(at, row)

    def made_by(self, row, token):
        """The (ROW, TOKEN)s that made the count of this number since it was 0, itself last."""
        made, many = self.made[(row, token)]
        return tuple(made[:many])

    def _count_row(self, at, row):
        if row[0] == "item":
            self._count_item(at, row)
        else:
            self._begin_items(0)
        if row[0] == "counter":
            self._take_rule(row)
        elif row[0] == "head":
            self._count_head(at, row)
        elif row[0] in ("table", "figure"):
            self._count_other(at, None, row[0])
        for number, token in enumerate(tokens_of(row) or ()):
            if token in NOTE_KINDS:
                self._count_other(at, number, NOTE_KINDS[token])

    def _take_rule(self, row):
        if row[1] == "head":
            self.head_forms[row[3] - 1] = row[2]
        else:
            self.rules[row[1]] = row[2:]

    def _begin_items(self, depth):
        """Make the counts of all items of greater depths 0."""
        for count in self.item_counts[depth:]:
            count.begin()

    def _count_item(self, at, row):
        depth = row[1]
        self._begin_items(depth)
        if row[2] == "num":
            count = self.item_counts[depth - 1]
            count.made.append((at, None))
            self._tell(at, None, "item", count.written(self.rules["item"][0]), count)

    def _count_head(self, at, row):
        depth = row[1]
        for count in self.heads[depth:]:
            count.begin()
        for kind in self.others:
            if depth <= self.rules[kind][1]:
                self.others[kind].begin()
        count = self.heads[depth - 1]
        count.made.append((at, None))
        self._tell(at, None, "head", ".".join(self._head_counts(depth)), count)

    def _count_other(self, at, token, kind):
        form, within = self.rules[kind]
        count = self.others[kind]
        count.made.append((at, token))
        number = ".".join(self._head_counts(within) + [count.written(form)])
        self._tell(at, token, kind, number, count)

    def _head_counts(self, depth):
        """The counts of heads of depths 1 to this one, as they are now, by their FORMs."""
        return [count.written(form) for count, form in zip(self.heads[:depth], self.head_forms)]

    def _tell(self, at, token, kind, number, count):
        self.kinds[(at, token)] = kind
        self.numbers[(at, token)] = number
        self.made[(at, token)] = (count.made, len(count.made))
