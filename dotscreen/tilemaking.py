"""Tiles whose levels lie evenly: doubled and spread ones, and how near to one another a level's cells lie."""

from dotscreen.errors import NoTile
from dotscreen.grids import cells_by_rows
from dotscreen.tiles import Tile, level_of, threshold_at


def doubled_tile(times):
    if times < 0:
        raise NoTile("a tile is not doubled fewer than nought times")
    rows = [[1]]
    for number in range(times):
        above = [quarter_row(row, 0) + quarter_row(row, 2) for row in rows]
        beneath = [quarter_row(row, 3) + quarter_row(row, 1) for row in rows]
        rows = above + beneath
    return Tile(len(rows) * len(rows), rows)


def quarter_row(row, more):
    return [4 * (threshold - 1) + 1 + more for threshold in row]


def spread_tile(high, wide):
    if high < 1 or wide < 1:
        raise NoTile("the tile would have no cell")
    cells = cells_by_rows(high, wide)
    numbers = [0] * len(cells)
    # Farther than any two cells are apart, so that the first place of all is the first to be taken.
    nearest = [high * high + wide * wide] * len(cells)
    for number in range(1, len(cells) + 1):
        # A cell with a number is nought from the nearest one, so it is not taken again.
        place = nearest.index(max(nearest))
        numbers[place] = number
        apart = [distance(cell, cells[place], high, wide) for cell in cells]
        nearest = [min(pair) for pair in zip(nearest, apart)]
    return Tile(len(cells), [numbers[first:first + wide] for first in range(0, len(cells), wide)])


def distance(one, other, high, wide):
    down = round_edge(abs(one[0] - other[0]), high)
    right = round_edge(abs(one[1] - other[1]), wide)
    return down * down + right * right


def round_edge(far, side):
    return min(far, side - far)


def nearest_two(tile, level):
    cells = level_of(tile, level)
    # Step by step from the shortest on: the more cells there are, the sooner two of them lie a step apart.
    for far, down, right in steps_by_distance(len(tile.rows), len(tile.rows[0])):
        for row, column in cells:
            if threshold_at(tile, row + down, column + right) <= level:
                return far
            if threshold_at(tile, row + down, column - right) <= level:
                return far
    return None


def steps_by_distance(high, wide):
    steps = []
    for down in range(high // 2 + 1):
        steps.extend([(down * down + right * right, down, right) for right in range(wide // 2 + 1)])
    # The least one leads from a cell to itself.
    return sorted(steps)[1:]
