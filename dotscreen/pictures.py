"""Pictures: rows of cells with shades, their parts, and pictures joined."""

from dotscreen.errors import NoMeet, NoPicture, OutOfPicture
from dotscreen.grids import fault_of, own_rows


class Picture:
    def __init__(self, most, rows):
        kept = own_rows(rows)
        fault = fault_of(kept, 0, most)
        if fault is not None:
            raise NoPicture(fault)
        self.most = most
        self.rows = kept


def high(picture):
    return len(picture.rows)


def wide(picture):
    return len(picture.rows[0])


def size_of(picture):
    return (high(picture), wide(picture))


def has_cell(picture, cell):
    return 0 <= cell[0] < high(picture) and 0 <= cell[1] < wide(picture)


def ask_cell(picture, cell):
    if not has_cell(picture, cell):
        raise OutOfPicture("the picture has no such cell")


def shade_at(picture, cell):
    ask_cell(picture, cell)
    return picture.rows[cell[0]][cell[1]]


def shades_sum(picture):
    return sum([sum(row) for row in picture.rows])


def ask_size(high, wide):
    if high < 1 or wide < 1:
        raise OutOfPicture("there would be no cell")


def ask_part(picture, top, left, high, wide):
    ask_size(high, wide)
    # A part lies within the picture just where its first and its last cell do.
    ask_cell(picture, (top, left))
    ask_cell(picture, (top + high - 1, left + wide - 1))


def part_of(picture, top, left, high, wide):
    ask_part(picture, top, left, high, wide)
    return Picture(picture.most, [row[left:left + wide] for row in picture.rows[top:top + high]])


def with_shades(picture, pairs):
    rows = [list(row) for row in picture.rows]
    for cell, shade in pairs:
        rows[cell[0]][cell[1]] = shade
    return Picture(picture.most, rows)


def laid_out(most, size, pairs):
    return with_shades(Picture(most, [[0] * size[1]] * size[0]), pairs)


def beside(one, other):
    ask_mosts(one, other)
    if high(one) != high(other):
        raise NoMeet("the numbers of rows differ")
    return Picture(one.most, [ahead + behind for ahead, behind in zip(one.rows, other.rows)])


def below(one, other):
    ask_mosts(one, other)
    if wide(one) != wide(other):
        raise NoMeet("the numbers of columns differ")
    return Picture(one.most, one.rows + other.rows)


def ask_mosts(one, other):
    if one.most != other.most:
        raise NoMeet("the mosts differ")
