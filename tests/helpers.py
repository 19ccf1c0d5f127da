"""What all tests of dotscreen share."""

import random
import unittest

from dotscreen.pictures import Picture
from dotscreen.tiles import Tile
from dotscreen.ways import ColumnWay, FoldedWay, FroWay, MaskedWay, Way

HUGE = 10 ** 30 - 1  # the greatest number of thirty figures
ENDLESS = 10 ** 6000  # more figures than Python writes out as a text


def plain(value):
    """The value with its objects and lists written out, so that a later change shows."""
    if isinstance(value, (Picture, Tile, Way)):
        return (type(value).__name__, plain(vars(value)))
    if isinstance(value, dict):
        return ("dict", [plain(pair) for pair in value.items()])
    if isinstance(value, (list, tuple)):
        return (type(value).__name__, [plain(each) for each in value])
    return value


def made(high, wide, most=9, start=0):
    """A picture whose shades differ from cell to cell."""
    return Picture(most, [[(start + 7 * row + 3 * column + row * column) % (most + 1) for column in range(wide)]
                          for row in range(high)])


def drawn(high, wide, most, seed):
    """A picture with shades drawn from all, always the same by the same seed, and with many at 0 and at the most."""
    draw = random.Random(seed)
    return Picture(most, [[draw.choice([0, most, draw.randint(0, most), draw.randint(0, most)])
                           for column in range(wide)] for row in range(high)])


def numbered(high, wide):
    """A picture in which each cell has a shade that no other one has."""
    return Picture(high * wide, [[row * wide + column for column in range(wide)] for row in range(high)])


def made_tile(high, wide, count=12, start=0):
    """A tile whose thresholds differ from cell to cell, some of them alike where there are many cells."""
    return Tile(count, [[(start + 5 * row + 7 * column + row * column) % count + 1 for column in range(wide)]
                        for row in range(high)])


def numbered_tile(high, wide):
    """A tile in which each cell has a threshold that no other one has."""
    return Tile(high * wide, [[row * wide + column + 1 for column in range(wide)] for row in range(high)])


def by_rows(high, wide):
    """All cells, row by row, each from the left."""
    return [(row, column) for row in range(high) for column in range(wide)]


def inks_of(number, most):
    """As many inks from 0 to most, not all as far apart."""
    return [0] + [most * place * place // (number * number) for place in range(2, number)] + [most]


def spoilt_inks():
    """Inks for a most of 9 and for one of thirty figures, each wrong in one way."""
    for most in (9, HUGE):
        yield from [([], most), ((), most), ([0], most), ((most,), most), ([most], most)]
        for wrong in (1, -1, most - 1, -HUGE):
            yield from [([wrong, most], most), ([wrong, 4, most], most)]
        for wrong in (most - 1, most + 1, 1, ENDLESS):
            yield from [([0, wrong], most), ((0, wrong), most)]
        yield from [([0, 4, most - 1], most), ([0, 4, most + 1], most), ([0, 4, 6], most)]
        yield from [([0, 0, most], most), ([0, most, most], most), ([0, 4, 4, most], most), ([0, 0], most)]
        yield from [([0, 5, 4, most], most), ([0, 3, 6, 5, most], most), ([most, 0], most), ([0, 8, 1, most], most)]
        yield from [([0, most + 1, most], most), ([0, 3, ENDLESS, most], most), ([0, 3, most + 1, most], most)]
        yield from [([0, -1, most], most), ([0, 3, -1, most], most), ([0, -HUGE, most], most)]
        for place in range(1, 19):
            inks = list(range(19)) + [max(most, 30)]
            inks[place], inks[place - 1] = inks[place - 1], inks[place]
            yield list(inks), inks[-1]
            inks[place - 1] = inks[place]
            yield list(inks), inks[-1]


def spoilt_shares():
    """Shares that are wrong in one way each."""
    yield from [[], [0], [0, 0], [0] * 20, [-1], [-HUGE], [-ENDLESS], [-1, 1], [1, -1]]
    for wrong in (-1, -2, -HUGE):
        for place in range(20):
            shares = [HUGE] + list(range(1, 20))
            shares[place] = wrong
            yield shares
            yield [wrong if number == place else 0 for number in range(20)]
    yield from [[-1, HUGE], [HUGE, -1], [0, -1, 2], [-1, -1], [-3, -3, -3]]


def ways_through(high, wide):
    """Each way as it is, masked, masked twice, and with all cells left out."""
    cells = by_rows(high, wide)
    for kind in (Way, FroWay, ColumnWay, FoldedWay):
        once = MaskedWay(kind(), cells[1::3] + [(-1, 0), (high, wide)])
        yield from [kind(), once, MaskedWay(once, cells[::4] + cells[::4]), MaskedWay(kind(), []),
                    MaskedWay(kind(), cells)]


def nearest(want, inks):
    """The ink nearest to the want, of two as near the lesser."""
    return min((abs(want - ink), ink) for ink in inks)[1]


def reckoned(picture, way, shares, inks):
    """The ledger, as the document tells it."""
    whole = sum(shares)
    rows, left, odd = [], {}, 0
    for number, cell in enumerate(way.order(len(picture.rows), len(picture.rows[0]))):
        due = sum(share * left.get(number - 1 - place, 0) for place, share in enumerate(shares)) + odd
        got, odd = due // whole, due % whole
        want = picture.rows[cell[0]][cell[1]] + got
        ink = nearest(want, inks)
        left[number] = want - ink
        rows.append((cell, got, ink, want - ink, odd))
    return rows


def laid(rows, picture):
    """The rows of the picture of a ledger's inks."""
    inks = {cell: ink for cell, got, ink, left, odd in rows}
    return [[inks.get((row, column), 0) for column in range(len(shades))] for row, shades in enumerate(picture.rows)]


def half_of(inks):
    return max(greater - lesser for lesser, greater in zip(inks, inks[1:])) // 2


def lists_within(value):
    """All lists of an answer, also those that stand within others."""
    found = [value] if isinstance(value, list) else []
    if isinstance(value, (list, tuple)):
        for each in value:
            found.extend(lists_within(each))
    if isinstance(value, (Picture, Tile)):
        found.extend(lists_within(list(vars(value).values()))[1:])
    return found


class DotTest(unittest.TestCase):
    def assert_equal(self, told, due):
        """As assertEqual, but without seeking out the difference, which takes minutes for a great picture."""
        if told != due:
            self.fail(repr(told)[:1000] + " is not " + repr(due)[:1000])

    def ask(self, function, *handed):
        """What the function tells; nothing that is handed in may be changed by it."""
        ahead = plain(handed)
        try:
            return function(*handed)
        finally:
            self.assert_equal(plain(handed), ahead)

    def assert_refused(self, kind, function, *handed):
        with self.assertRaises(kind) as caught:
            self.ask(function, *handed)
        self.assertIs(type(caught.exception), kind)
        str(caught.exception)  # fails where a number of too many figures stands in the words

    def assert_picture(self, picture, most, rows):
        self.assertIs(type(picture), Picture)
        self.assertTrue(picture.most == most)
        self.assert_equal(picture.rows, tuple(tuple(row) for row in rows))

    def assert_tile(self, tile, count, rows):
        self.assertIs(type(tile), Tile)
        self.assertTrue(tile.count == count)
        self.assert_equal(tile.rows, tuple(tuple(row) for row in rows))

    def assert_told_anew(self, function, *handed):
        """A list that is told is the asker's own: whatever is done to it, the next one told is as this one was."""
        told = self.ask(function, *handed)
        due = list(told)
        again = function(*handed)
        self.assertIsNot(told, again)
        told.append((7, 7))
        told.reverse()
        told.pop()
        told[:1] = [None, None]
        self.assert_equal(again, due)
        self.assert_equal(function(*handed), due)

    def assert_no_list_twice(self, *told):
        """No two lists of what was told are one and the same."""
        found = [each for answer in told for each in lists_within(answer)]
        self.assertEqual(len({id(each) for each in found}), len(found))

    def assert_same(self, one, other):
        self.assert_picture(one, other.most, other.rows)
