"""Where ROWs may stand."""

from papertongue.grids import Grid
from papertongue.rows import RULE_ROWS, is_row

MOST_WHENS = 3


class Standing:
    """The ROWs taken so far, as far as they bear on which may stand behind them."""

    def __init__(self):
        self.rules = {}
        self.is_ahead = True
        self.whens = 0
        self.grid = None

    def takes(self, row):
        """Take the ROW where it may stand here, and tell whether it may; behind a False ask no more."""
        if row[0] in RULE_ROWS:
            return self._takes_rule(row)
        self.is_ahead = False
        if self.grid is not None:
            return self._takes_in_table(row)
        if row[0] == "table":
            self.grid = Grid(row[1])
            return True
        if row[0] == "when":
            return self._takes_when()
        if row[0] == "done":
            return self._takes_done()
        return row[0] not in ("row", "cell", "close")

    def is_closed(self):
        """Whether no table and no `when` is open."""
        return self.grid is None and self.whens == 0

    def _takes_rule(self, row):
        key = _rule_key(row)
        if not self.is_ahead or key in self.rules:
            return False
        self.rules[key] = True
        return True

    def _takes_when(self):
        if self.whens == MOST_WHENS:
            return False
        self.whens += 1
        return True

    def _takes_done(self):
        if self.whens == 0:
            return False
        self.whens -= 1
        return True

    def _takes_in_table(self, row):
        if row[0] == "row":
            return self.grid.add_row()
        if row[0] == "cell":
            return self.grid.add_cell(row[1], row[2]) is not None
        if row[0] != "close" or not self.grid.may_close():
            return False
        self.grid = None
        return True


def _rule_key(row):
    """What a `style` or `counter` row tells of, which no other may."""
    if row[0] == "counter" and row[1] == "head":
        return ("counter", "head", row[3])
    return row[:2]


def wrong_place(rows):
    """The place that parts a tuple from ROWs that may stand together: None where they may."""
    standing = Standing()
    for place, row in enumerate(rows):
        if not is_row(row) or not standing.takes(row):
            return place
    return None if standing.is_closed() else len(rows)
