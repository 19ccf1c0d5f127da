"""What is left over at a cell handed on to cells around it, row by row."""

from dotscreen.errors import NoShares
from dotscreen.grids import cells_by_rows
from dotscreen.handing import LEFT, ODD, ask_shares, dots_of, entry_of
from dotscreen.pictures import shade_at, size_of
from dotscreen.screens import ask_inks


def ask_around(around):
    for down, right, share in around:
        if down < 0 or (down == 0 and right < 1):
            raise NoShares("a share goes to a cell that is not behind")
    ask_shares([share for down, right, share in around])


def spread_on(picture, around, inks):
    ask_around(around)
    ask_inks(inks, picture.most)
    size = size_of(picture)
    whole = sum([share for down, right, share in around])
    entries = []
    lefts = {}
    odd = 0
    for cell in cells_by_rows(size[0], size[1]):
        due = odd + due_from(lefts, cell, around)
        entry = entry_of(cell, shade_at(picture, cell), due, whole, inks)
        entries.append(entry)
        lefts[cell] = entry[LEFT]
        odd = entry[ODD]
    return (dots_of(picture, entries), odd)


def due_from(lefts, cell, around):
    return sum([share * lefts.get((cell[0] - down, cell[1] - right), 0) for down, right, share in around])
