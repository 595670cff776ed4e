"""Texts: ROWS that stand together."""

from papertongue.errors import NoRows
from papertongue.rows import show_row
from papertongue.standing import wrong_place
from papertongue.things import is_tuple
from papertongue.trees import tree_of

MOST_ROWS = 80


class Text:
    """A text of ROWS, which never changes."""

    def __init__(self, rows=()):
        if not is_tuple(rows) or len(rows) > MOST_ROWS:
            raise NoRows(None)
        place = wrong_place(rows)
        if place is not None:
            raise NoRows(place)
        self.rows = rows

    def tree(self):
        """The ROWS as a tuple of nodes, with what stands in a `when` or a table within it."""
        return tree_of(self.rows)

    def __eq__(self, other):
        return isinstance(other, Text) and self.rows == other.rows

    def __len__(self):
        return len(self.rows)

    def __str__(self):
        return "\n".join([show_row(row) for row in self.rows])

    def __repr__(self):
        return f"Text({len(self.rows)})"
