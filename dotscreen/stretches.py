"""Dots counted by stretches of like shades along a way, and laid along it again."""

from dotscreen.errors import NoPicture, NoStretches
from dotscreen.pictures import ask_size, laid_out, shade_at, size_of


def stretches_along(picture, way):
    size = size_of(picture)
    stretches = []
    for cell in way.order(size[0], size[1]):
        shade = shade_at(picture, cell)
        if len(stretches) > 0 and stretches[-1][0] == shade:
            stretches[-1] = (shade, stretches[-1][1] + 1)
        else:
            stretches.append((shade, 1))
    return stretches


def laid_along(most, high, wide, way, stretches):
    ask_size(high, wide)
    if most < 1:
        raise NoPicture("the most is below 1")
    cells = way.order(high, wide)
    ask_stretches(stretches, most, len(cells))
    shades = []
    for shade, count in stretches:
        shades.extend([shade] * count)
    return laid_out(most, (high, wide), list(zip(cells, shades)))


def ask_stretches(stretches, most, cells):
    for shade, count in stretches:
        if count < 1:
            raise NoStretches("a stretch has no cell")
        if shade < 0 or shade > most:
            raise NoStretches("a stretch's shade is below 0 or above the most")
    if sum([count for shade, count in stretches]) != cells:
        raise NoStretches("the stretches have more cells than the way, or fewer")
