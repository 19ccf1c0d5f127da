"""Ways through a picture: the orders in which its cells may be gone through."""

from dotscreen.errors import NoWay
from dotscreen.grids import cells_by_rows
from dotscreen.pictures import ask_size


class Way:
    def order(self, high, wide):
        ask_size(high, wide)
        return cells_by_rows(high, wide)

    def word(self):
        return "rows"


class FroWay(Way):
    def order(self, high, wide):
        ask_size(high, wide)
        cells = []
        for row in range(high):
            line = [(row, column) for column in range(wide)]
            cells.extend(line[::-1] if row % 2 == 1 else line)
        return cells

    def word(self):
        return "fro"


class ColumnWay(Way):
    def order(self, high, wide):
        ask_size(high, wide)
        return [(row, column) for column, row in cells_by_rows(wide, high)]

    def word(self):
        return "columns"


class FoldedWay(Way):
    def order(self, high, wide):
        ask_size(high, wide)
        side = 1
        while side < high or side < wide:
            side = 2 * side
        return [(row, column) for row, column in folded_cells(side) if row < high and column < wide]

    def word(self):
        return "folded"


class MaskedWay(Way):
    def __init__(self, way, mask):
        self.way = way
        self.mask = dict([(cell, True) for cell in mask])

    def order(self, high, wide):
        ways = ways_within(self)
        left_out = {}
        for way in ways[:-1]:
            left_out.update(way.mask)
        return [cell for cell in ways[-1].order(high, wide) if cell not in left_out]

    def word(self):
        ways = ways_within(self)
        return "masked " * (len(ways) - 1) + ways[-1].word()


def ways_within(way):
    # From the outermost inwards, by a loop: a way may be masked more often than calls may go deep.
    ways = [way]
    while isinstance(ways[-1], MaskedWay):
        ways.append(ways[-1].way)
    return ways


def folded_cells(side):
    cells = [(0, 0)]
    reached = 1
    while reached < side:
        cells = folded_once(cells, reached)
        reached = 2 * reached
    return cells


def folded_once(cells, side):
    first = [(column, row) for row, column in cells]
    second = [(side + row, column) for row, column in cells]
    third = [(side + row, side + column) for row, column in cells]
    fourth = [(side - 1 - column, 2 * side - 1 - row) for row, column in cells]
    return first + second + third + fourth


def way_by(word):
    for way in (Way(), FroWay(), ColumnWay(), FoldedWay()):
        if way.word() == word:
            return way
    raise NoWay("there is no way of this word")
