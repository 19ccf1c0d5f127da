"""Pictures read back by windows: the sums of their parts of one size, and the shades that these come to."""

from dotscreen.pictures import Picture, ask_part


def window_sums(picture, high, wide):
    ask_part(picture, 0, 0, high, wide)
    across = [sums_across(row, wide) for row in picture.rows]
    return [sums_down(across[top:top + high]) for top in range(len(across) - high + 1)]


def sums_across(row, wide):
    return [sum(row[left:left + wide]) for left in range(len(row) - wide + 1)]


def sums_down(lines):
    return [sum([line[place] for line in lines]) for place in range(len(lines[0]))]


def read_back(picture, high, wide):
    cells = high * wide
    return Picture(picture.most, [shades_of(sums, cells) for sums in window_sums(picture, high, wide)])


def shades_of(sums, cells):
    return [(2 * whole + cells) // (2 * cells) for whole in sums]
