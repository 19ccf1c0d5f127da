"""Tiles: rows of thresholds that repeat without end, and the levels of a tile."""

from dotscreen.errors import NoTile
from dotscreen.grids import fault_of, own_rows


class Tile:
    def __init__(self, count, rows):
        kept = own_rows(rows)
        fault = fault_of(kept, 1, count)
        if fault is not None:
            raise NoTile(fault)
        self.count = count
        self.rows = kept


def threshold_at(tile, row, column):
    line = tile.rows[row % len(tile.rows)]
    return line[column % len(line)]


def level_of(tile, level):
    cells = []
    for row, line in enumerate(tile.rows):
        cells.extend([(row, column) for column, threshold in enumerate(line) if threshold <= level])
    return cells
