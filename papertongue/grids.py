"""The grid of a table: where its cells lie."""

MOST_TABLE_ROWS = 8


class Grid:
    """The cells of a table, laid as its `row` and `cell` rows come."""

    def __init__(self, columns):
        self.many = 0
        # A cell that lies in a column takes its rows without a gap, so one number for each
        # column tells all: the first row in which it is free again.
        self.free_from = [0] * columns

    def add_row(self):
        """Begin the next row; False where the table has no room for it."""
        if self.many == MOST_TABLE_ROWS:
            return False
        self.many += 1
        return True

    def add_cell(self, down, across):
        """Lay a cell in the row begun last and tell its column; None where it has no room."""
        if self.many == 0:
            return None
        row = self.many - 1
        free = [column for column, first in enumerate(self.free_from) if first <= row]
        if len(free) == 0:
            return None
        wanted = range(free[0], free[0] + across)
        if any([column not in free for column in wanted]):
            return None
        for column in wanted:
            self.free_from[column] = row + down
        return free[0]

    def may_close(self):
        """Whether there is a row and all cells lie in rows that there are."""
        return self.many > 0 and max(self.free_from) <= self.many


def table_grid(rows, at):
    """The GRID of the table whose `table` row has this number."""
    grid = Grid(rows[at][1])
    lines = []
    for row in rows[at + 1:]:
        if row[0] == "close":
            break
        if row[0] == "row":
            grid.add_row()
            lines.append([])
        else:
            column = grid.add_cell(row[1], row[2])
            lines[-1].append((column,) + row[1:])
    return tuple([tuple(line) for line in lines])
