"""Pictures laid over one another, and pictures without some of their cells."""

from dotscreen.errors import NoMeet
from dotscreen.grids import cells_by_rows
from dotscreen.pictures import ask_cell, ask_mosts, laid_out, shade_at, size_of, with_shades


def laid_over(pictures):
    ask_layers(pictures)
    pairs = []
    for cell, number in seen_by_cells(pictures):
        if number < len(pictures):
            pairs.append((cell, shade_at(pictures[number], cell)))
    return laid_out(pictures[0].most, size_of(pictures[0]), pairs)


def seen_of(pictures):
    ask_layers(pictures)
    counts = [0] * (len(pictures) + 1)
    for cell, number in seen_by_cells(pictures):
        counts[number] = counts[number] + 1
    return counts


def ask_layers(pictures):
    if len(pictures) == 0:
        raise NoMeet("there is no picture")
    for picture in pictures:
        ask_mosts(picture, pictures[0])
        if size_of(picture) != size_of(pictures[0]):
            raise NoMeet("the sizes differ")


def seen_by_cells(pictures):
    size = size_of(pictures[0])
    return [(cell, number_seen(pictures, cell)) for cell in cells_by_rows(size[0], size[1])]


def number_seen(pictures, cell):
    # Paper has the number behind all of them, as where it is counted.
    seen = len(pictures)
    for number, picture in enumerate(pictures):
        if shade_at(picture, cell) != 0:
            seen = number
    return seen


def without_cells(picture, mask):
    for cell in mask:
        ask_cell(picture, cell)
    return with_shades(picture, [(cell, 0) for cell in mask])
