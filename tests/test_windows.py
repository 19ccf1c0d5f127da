"""[21] the sums of windows and pictures read back by them."""

import unittest

from dotscreen.errors import OutOfPicture
from dotscreen.pictures import Picture, part_of, shades_sum
from dotscreen.windows import read_back, window_sums
from tests.helpers import ENDLESS, HUGE, DotTest, made, numbered, plain

SHAPES = [(1, 1), (1, 6), (6, 1), (2, 2), (4, 5), (7, 3)]


def due_sums(picture, high, wide):
    return [[shades_sum(part_of(picture, top, left, high, wide)) for left in range(len(picture.rows[0]) - wide + 1)]
            for top in range(len(picture.rows) - high + 1)]


def pictures():
    for tall, broad in SHAPES:
        yield from [made(tall, broad), numbered(tall, broad), Picture(1, [[1] * broad] * tall),
                    Picture(HUGE, [[HUGE - row * column for column in range(broad)] for row in range(tall)])]


class SumsTest(DotTest):
    def test_by_hand(self):
        picture = Picture(9, [[1, 2, 3], [4, 5, 6]])
        for size, due in (((1, 1), [[1, 2, 3], [4, 5, 6]]), ((1, 2), [[3, 5], [9, 11]]), ((2, 1), [[5, 7, 9]]),
                          ((2, 2), [[12, 16]]), ((2, 3), [[21]]), ((1, 3), [[6], [15]])):
            self.assertEqual(self.ask(window_sums, picture, *size), due)

    def test_any_size(self):
        for picture in pictures():
            for high in range(1, len(picture.rows) + 1):
                for wide in range(1, len(picture.rows[0]) + 1):
                    self.assert_equal(self.ask(window_sums, picture, high, wide), due_sums(picture, high, wide))

    def test_sixty_four(self):
        picture = numbered(64, 64)
        for size in ((1, 1), (64, 64), (64, 1), (1, 64), (63, 2), (2, 63)):
            self.assert_equal(self.ask(window_sums, picture, *size), due_sums(picture, *size))
        told = self.ask(window_sums, Picture(HUGE, [[HUGE] * 64] * 64), 32, 32)
        self.assert_equal(told, [[1024 * HUGE] * 33] * 33)

    def test_kinds(self):
        for size in ((1, 1), (2, 3), (4, 5)):
            told = window_sums(made(4, 5), *size)
            self.assertIs(type(told), list)
            self.assertEqual({type(line) for line in told}, {list})
            self.assertEqual({type(each) for line in told for each in line}, {int})

    def test_no_two_lists_are_one(self):
        for picture in pictures():
            for size in ((1, 1), (1, len(picture.rows[0])), (len(picture.rows), 1)):
                self.assert_no_list_twice(window_sums(picture, *size), window_sums(picture, *size))

    def test_the_told_lists_changed(self):
        picture = Picture(9, [[3] * 4] * 4)
        ahead = plain(picture)
        told, again = window_sums(picture, 2, 2), window_sums(picture, 2, 2)
        told[0][0] = 99
        told[1].append(5)
        told.pop()
        self.assert_equal(told[1], [12, 12, 12, 5])
        self.assert_equal(again, [[12] * 3] * 3)
        self.assert_equal(window_sums(picture, 2, 2), [[12] * 3] * 3)
        self.assert_equal(plain(picture), ahead)


class ReadBackTest(DotTest):
    def test_a_half_up_and_just_below_it(self):
        for rows, size, due in (([[0, 1]], (1, 2), 1), ([[1, 2]], (1, 2), 2), ([[0, 0, 1]], (1, 3), 0),
                                ([[0, 1, 1]], (1, 3), 1), ([[0, 0], [0, 1]], (2, 2), 0), ([[0, 0], [1, 1]], (2, 2), 1),
                                ([[1, 1], [1, 0]], (2, 2), 1), ([[2, 2], [1, 1]], (2, 2), 2), ([[0], [9]], (2, 1), 5),
                                ([[9, 9, 9, 8]], (1, 4), 9), ([[9, 9, 8, 8]], (1, 4), 9), ([[9, 8, 8, 8]], (1, 4), 8)):
            self.assert_picture(self.ask(read_back, Picture(9, rows), *size), 9, [[due]])

    def test_halves_of_thirty_figures(self):
        for shade, due in ((0, HUGE // 2 + 1), (1, HUGE // 2 + 1), (2, HUGE // 2 + 2), (HUGE, HUGE)):
            self.assert_picture(read_back(Picture(HUGE, [[shade, HUGE]]), 1, 2), HUGE, [[due]])
        self.assert_picture(read_back(Picture(HUGE, [[HUGE, 0, 0]]), 1, 3), HUGE, [[HUGE // 3]])

    def test_any_size(self):
        for picture in pictures():
            for high in range(1, len(picture.rows) + 1):
                for wide in range(1, len(picture.rows[0]) + 1):
                    cells = high * wide
                    due = [[whole // cells + (1 if 2 * (whole % cells) >= cells else 0) for whole in line]
                           for line in due_sums(picture, high, wide)]
                    self.assert_picture(self.ask(read_back, picture, high, wide), picture.most, due)

    def test_of_one_cell_the_picture_itself(self):
        for picture in pictures():
            self.assert_same(self.ask(read_back, picture, 1, 1), picture)
            self.assertIsNot(read_back(picture, 1, 1), picture)


class RefusedTest(DotTest):
    def test_sizes_of_nought_and_below(self):
        for function in (window_sums, read_back):
            for none in (0, -1, -2, -5, -HUGE, -ENDLESS):
                for other in (1, 3, 4, HUGE):
                    self.assert_refused(OutOfPicture, function, made(4, 5), none, other)
                    self.assert_refused(OutOfPicture, function, made(4, 5), other, none)
                self.assert_refused(OutOfPicture, function, made(4, 5), none, none)

    def test_sizes_beyond_the_picture(self):
        for function in (window_sums, read_back):
            for tall, broad in SHAPES:
                picture = made(tall, broad)
                for far in (1, 2, HUGE, ENDLESS):
                    self.assert_refused(OutOfPicture, function, picture, tall + far, broad)
                    self.assert_refused(OutOfPicture, function, picture, tall, broad + far)
                    self.assert_refused(OutOfPicture, function, picture, tall + far, 1)
                    self.assert_refused(OutOfPicture, function, picture, 1, broad + far)
                    self.assert_refused(OutOfPicture, function, picture, tall + far, broad + far)

    def test_rows_and_columns_exchanged(self):
        for function in (window_sums, read_back):
            self.assert_refused(OutOfPicture, function, made(2, 3), 3, 2)


if __name__ == "__main__":
    unittest.main()
