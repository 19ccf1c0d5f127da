"""Rows of numbers, as pictures and tiles have them, and the cells of such rows."""


def own_rows(rows):
    # The asker may go on changing the lists that were handed in, but not tuples.
    return tuple([tuple(row) for row in rows])


def fault_of(rows, least, greatest):
    if greatest < 1:
        return "the greatest number is below 1"
    if len(rows) == 0 or len(rows[0]) == 0:
        return "there are no cells"
    for row in rows:
        if len(row) != len(rows[0]):
            return "the rows' lengths differ"
        if min(row) < least or max(row) > greatest:
            return "a number is below the least or above the greatest"
    return None


def cells_by_rows(high, wide):
    cells = []
    for row in range(high):
        cells.extend([(row, column) for column in range(wide)])
    return cells
