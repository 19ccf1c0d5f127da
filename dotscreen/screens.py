"""Pictures made to dots by a tile of thresholds that repeats."""

from dotscreen.errors import NoInks
from dotscreen.pictures import Picture
from dotscreen.tiles import threshold_at


def ask_inks(inks, most):
    ask_rising(inks)
    if inks[-1] != most:
        raise NoInks("the last ink is not the most")


def ask_rising(inks):
    if len(inks) < 2:
        raise NoInks("there are fewer than two inks")
    if inks[0] != 0:
        raise NoInks("the first ink is not 0")
    for lesser, greater in zip(inks[:-1], inks[1:]):
        if lesser >= greater:
            raise NoInks("the inks do not rise strictly")


def screened(picture, tile, inks, top=0, left=0):
    ask_inks(inks, picture.most)
    rows = []
    for row, shades in enumerate(picture.rows):
        line = []
        for column, shade in enumerate(shades):
            threshold = threshold_at(tile, row + top, column + left)
            line.append(dot_of(shade, threshold, tile.count, inks))
        rows.append(line)
    return Picture(picture.most, rows)


def dot_of(shade, threshold, count, inks):
    place = len([ink for ink in inks if ink <= shade])
    below = inks[place - 1]
    if place == len(inks):
        return below
    above = inks[place]
    if (shade - below) * count >= threshold * (above - below):
        return above
    return below
