"""The tree of a text: what stands in a `when` and in a table."""

from papertongue.grids import table_grid


def tree_of(rows):
    """The nodes of ROWs that may stand together."""
    kinds = []
    levels = [[]]
    for at, row in enumerate(rows):
        if row[0] == "when":
            kinds.append(row[1])
            levels.append([])
        elif row[0] == "done":
            nodes = tuple(levels.pop())
            levels[-1].append(("when", kinds.pop(), nodes))
        elif row[0] == "table":
            levels[-1].append(row + (table_grid(rows, at),))
        elif row[0] not in ("row", "cell", "close"):
            levels[-1].append(row)
    return tuple(levels[0])
