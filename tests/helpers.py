"""What all tests of dotscreen share."""

import unittest

from dotscreen.pictures import Picture
from dotscreen.tiles import Tile
from dotscreen.ways import Way

HUGE = 10 ** 30 - 1  # the greatest number of thirty figures
ENDLESS = 10 ** 6000  # more figures than Python writes out as a text


def plain(value):
    """The value with its objects and lists written out, so that a later change shows."""
    if isinstance(value, (Picture, Tile, Way)):
        return (type(value).__name__, plain(vars(value)))
    if isinstance(value, dict):
        return ("dict", [plain(pair) for pair in value.items()])
    if isinstance(value, (list, tuple)):
        return (type(value).__name__, [plain(each) for each in value])
    return value


def made(high, wide, most=9, start=0):
    """A picture whose shades differ from cell to cell."""
    return Picture(most, [[(start + 7 * row + 3 * column + row * column) % (most + 1) for column in range(wide)]
                          for row in range(high)])


def numbered(high, wide):
    """A picture in which each cell has a shade that no other one has."""
    return Picture(high * wide, [[row * wide + column for column in range(wide)] for row in range(high)])


def made_tile(high, wide, count=12, start=0):
    """A tile whose thresholds differ from cell to cell, some of them alike where there are many cells."""
    return Tile(count, [[(start + 5 * row + 7 * column + row * column) % count + 1 for column in range(wide)]
                        for row in range(high)])


def numbered_tile(high, wide):
    """A tile in which each cell has a threshold that no other one has."""
    return Tile(high * wide, [[row * wide + column + 1 for column in range(wide)] for row in range(high)])


def by_rows(high, wide):
    """All cells, row by row, each from the left."""
    return [(row, column) for row in range(high) for column in range(wide)]


class DotTest(unittest.TestCase):
    def assert_equal(self, told, due):
        """As assertEqual, but without seeking out the difference, which takes minutes for a great picture."""
        if told != due:
            self.fail(repr(told)[:1000] + " is not " + repr(due)[:1000])

    def ask(self, function, *handed):
        """What the function tells; nothing that is handed in may be changed by it."""
        ahead = plain(handed)
        try:
            return function(*handed)
        finally:
            self.assert_equal(plain(handed), ahead)

    def assert_refused(self, kind, function, *handed):
        with self.assertRaises(kind) as caught:
            self.ask(function, *handed)
        self.assertIs(type(caught.exception), kind)
        str(caught.exception)  # fails where a number of too many figures stands in the words

    def assert_picture(self, picture, most, rows):
        self.assertIs(type(picture), Picture)
        self.assertTrue(picture.most == most)
        self.assert_equal(picture.rows, tuple(tuple(row) for row in rows))

    def assert_tile(self, tile, count, rows):
        self.assertIs(type(tile), Tile)
        self.assertTrue(tile.count == count)
        self.assert_equal(tile.rows, tuple(tuple(row) for row in rows))

    def assert_told_anew(self, function, *handed):
        """A list that is told is the asker's own: whatever is done to it, the next one told is as this one was."""
        told = self.ask(function, *handed)
        due = list(told)
        again = function(*handed)
        self.assertIsNot(told, again)
        told.append((7, 7))
        told.reverse()
        told.pop()
        told[:1] = [None, None]
        self.assert_equal(again, due)
        self.assert_equal(function(*handed), due)

    def assert_same(self, one, other):
        self.assert_picture(one, other.most, other.rows)
