"""Pictures: rows of cells with shades, their parts, and pictures joined."""

from dotscreen.errors import NoMeet, NoPicture, OutOfPicture


class Picture:
    def __init__(self, most, rows):
        # The asker may go on changing the lists, so the picture keeps tuples of its own.
        own_rows = tuple([tuple(row) for row in rows])
        ask_shades(most, own_rows)
        self.most = most
        self.rows = own_rows


def ask_shades(most, rows):
    if most < 1:
        raise NoPicture("the most is below 1")
    if len(rows) == 0 or len(rows[0]) == 0:
        raise NoPicture("there are no cells")
    for row in rows:
        if len(row) != len(rows[0]):
            raise NoPicture("the rows' lengths differ")
        if min(row) < 0 or max(row) > most:
            raise NoPicture("a shade is not from 0 to the most")


def high(picture):
    return len(picture.rows)


def wide(picture):
    return len(picture.rows[0])


def size_of(picture):
    return (high(picture), wide(picture))


def has_cell(picture, cell):
    return 0 <= cell[0] < high(picture) and 0 <= cell[1] < wide(picture)


def shade_at(picture, cell):
    if not has_cell(picture, cell):
        raise OutOfPicture("the picture has no such cell")
    return picture.rows[cell[0]][cell[1]]


def shades_sum(picture):
    return sum([sum(row) for row in picture.rows])


def part_of(picture, top, left, high, wide):
    if high < 1 or wide < 1:
        raise OutOfPicture("the part would have no cell")
    # A part lies within the picture just where its first and its last cell do.
    last = (top + high - 1, left + wide - 1)
    if not has_cell(picture, (top, left)) or not has_cell(picture, last):
        raise OutOfPicture("the part would have a cell that is not the picture's")
    return Picture(picture.most, [row[left:left + wide] for row in picture.rows[top:top + high]])


def beside(one, other):
    ask_mosts(one, other)
    if high(one) != high(other):
        raise NoMeet("the numbers of rows differ")
    return Picture(one.most, [ahead + behind for ahead, behind in zip(one.rows, other.rows)])


def below(one, other):
    ask_mosts(one, other)
    if wide(one) != wide(other):
        raise NoMeet("the numbers of columns differ")
    return Picture(one.most, one.rows + other.rows)


def ask_mosts(one, other):
    if one.most != other.most:
        raise NoMeet("the mosts differ")
