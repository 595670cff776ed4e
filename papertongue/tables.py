"""The lines of tables: their captions, and their rows as cells make them."""

from papertongue.grids import table_grid
from papertongue.words import Line, laid


class Cell:
    """A cell as it is laid: the first of its table's rows, how many these are, and its lines."""

    def __init__(self, first, down, lines):
        self.first = first
        self.down = down
        self.lines = lines

    def last(self):
        """The last of the table's rows in which it lies."""
        return self.first + self.down - 1


def row_cells(rows, at):
    """Of each row of a table the number of its `row`, and (ROW, COLUMN, DOWN, ACROSS) of each cell."""
    found = []
    number = at
    for cells in table_grid(rows, at):
        number += 1
        found.append((number, [(number + 1 + place,) + cell[:3] for place, cell in enumerate(cells)]))
        number += len(cells)
    return found


def table_groups(measure, at):
    """The lines of a table's rows, (ROW, LINES) of those together that have a cell in common."""
    table = row_cells(measure.showing.rows, at)
    cells = _laid_cells(measure, at, table)
    heights = _heights(cells, len(table))
    lines = _row_lines(cells, [number for number, _ in table], heights)
    groups = []
    for first, many in _groups(cells, len(table)):
        together = []
        for row_lines in lines[first:first + many]:
            together.extend(row_lines)
        groups.append((table[first][0], together))
    return groups


def _laid_cells(measure, at, table):
    """The Cells of a table, their words laid at their columns."""
    columns = measure.showing.rows[at][1]
    wide = (measure.width - (columns - 1)) // columns
    cells = []
    for first, (_, told) in enumerate(table):
        for row, column, down, across in told:
            room = (column * (wide + 1), across * (wide + 1) - 1)
            cells.append(Cell(first, down, laid(measure.words_of_row(row), room, room)))
    return cells


def _heights(cells, many):
    """How many lines each row of a table is high."""
    heights = []
    for row in range(many):
        # Of a cell that ends here, what its rows ahead of this one leave over.
        wanted = [len(cell.lines) - sum(heights[cell.first:]) for cell in cells if cell.last() == row]
        heights.append(max([1] + wanted))
    return heights


def _row_lines(cells, numbers, heights):
    """The Lines of each row of a table."""
    spans = [[] for _ in range(sum(heights))]
    for cell in cells:
        first = sum(heights[:cell.first])
        for place, line in enumerate(cell.lines):
            spans[first + place].extend(line)
    lines = []
    first = 0
    for number, high in zip(numbers, heights):
        lines.append([Line(number, _by_columns(line)) for line in spans[first:first + high]])
        first += high
    return lines


def _by_columns(spans):
    """The spans from left to right."""
    return sorted(spans, key=lambda span: span[0])


def _groups(cells, many):
    """(FIRST, HOW MANY) of the rows of a table that have cells in common."""
    groups = []
    first = 0
    for row in range(many):
        if not any([cell.first <= row < cell.last() for cell in cells]):
            groups.append((first, row - first + 1))
            first = row + 1
    return groups
