"""Pictures cut up into pieces, and pieces put together again."""

from dotscreen.errors import NoMeet
from dotscreen.pictures import Picture, ask_mosts, ask_size, part_of, size_of


def cut_up(picture, high, wide):
    ask_size(high, wide)
    size = size_of(picture)
    pieces = []
    for top in range(0, size[0], high):
        for left in range(0, size[1], wide):
            tall = min(high, size[0] - top)
            broad = min(wide, size[1] - left)
            pieces.append((top, left, part_of(picture, top, left, tall, broad)))
    return pieces


def put_together(pieces):
    ask_pieces(pieces)
    size = least_size(pieces)
    # Told by numbers first: a piece may lie so far off that its rows could not be laid out.
    if size[0] * size[1] != sum([cells_of(picture) for top, left, picture in pieces]):
        raise NoMeet("the pieces leave a cell out, or two have the same one")
    return Picture(pieces[0][2].most, rows_of(pieces, size))


def ask_pieces(pieces):
    if len(pieces) == 0:
        raise NoMeet("there is no piece")
    for top, left, picture in pieces:
        ask_mosts(picture, pieces[0][2])
        if top < 0 or left < 0:
            raise NoMeet("a piece begins below nought")


def least_size(pieces):
    tall = max([top + size_of(picture)[0] for top, left, picture in pieces])
    broad = max([left + size_of(picture)[1] for top, left, picture in pieces])
    return (tall, broad)


def cells_of(picture):
    size = size_of(picture)
    return size[0] * size[1]


def rows_of(pieces, size):
    # There are as many cells as the pieces have, so none is left out where no two meet in one.
    sheet = [[None] * size[1] for number in range(size[0])]
    for top, left, picture in pieces:
        for down, shades in enumerate(picture.rows):
            lay_shades(sheet[top + down], left, shades)
    return sheet


def lay_shades(line, left, shades):
    for right, shade in enumerate(shades):
        if line[left + right] is not None:
            raise NoMeet("two pieces have the same cell")
        line[left + right] = shade
