"""What all tests of dotscreen share."""

import unittest

from dotscreen.pictures import Picture

HUGE = 10 ** 30 - 1  # the greatest number of thirty figures
ENDLESS = 10 ** 6000  # more figures than Python writes out as a text


def plain(value):
    """The value with its pictures and lists written out, so that a later change shows."""
    if isinstance(value, Picture):
        return ("picture", value.most, plain(value.rows))
    if isinstance(value, (list, tuple)):
        return (type(value).__name__, [plain(each) for each in value])
    return value


def made(high, wide, most=9, start=0):
    """A picture whose shades differ from cell to cell."""
    return Picture(most, [[(start + 7 * row + 3 * column + row * column) % (most + 1) for column in range(wide)]
                          for row in range(high)])


def numbered(high, wide):
    """A picture in which each cell has a shade that no other one has."""
    return Picture(high * wide, [[row * wide + column for column in range(wide)] for row in range(high)])


class DotTest(unittest.TestCase):
    def assert_equal(self, told, due):
        """As assertEqual, but without seeking out the difference, which takes minutes for a great picture."""
        if told != due:
            self.fail(repr(told)[:1000] + " is not " + repr(due)[:1000])

    def ask(self, function, *handed):
        """What the function tells; nothing that is handed in may be changed by it."""
        ahead = plain(handed)
        try:
            return function(*handed)
        finally:
            self.assert_equal(plain(handed), ahead)

    def assert_refused(self, kind, function, *handed):
        with self.assertRaises(kind) as caught:
            self.ask(function, *handed)
        self.assertIs(type(caught.exception), kind)
        str(caught.exception)  # fails where a number of too many figures stands in the words

    def assert_picture(self, picture, most, rows):
        self.assertIs(type(picture), Picture)
        self.assertTrue(picture.most == most)
        self.assert_equal(picture.rows, tuple(tuple(row) for row in rows))

    def assert_same(self, one, other):
        self.assert_picture(one, other.most, other.rows)
