"""[4] pictures, their shades, and what is refused as none."""

import unittest

from dotscreen.errors import NoPicture, OutOfPicture
from dotscreen.pictures import Picture, high, shade_at, shades_sum, wide
from tests.helpers import ENDLESS, HUGE, DotTest, made, numbered

SHAPES = [(1, 1), (1, 5), (5, 1), (2, 3), (3, 2), (4, 4), (64, 1), (1, 64), (64, 64)]


class FieldsTest(DotTest):
    def test_most_and_rows(self):
        self.assert_picture(self.ask(Picture, 5, [[0, 5, 2], [3, 1, 4]]), 5, [[0, 5, 2], [3, 1, 4]])

    def test_lists_and_tuples(self):
        for rows in ([[0, 1], [1, 0]], [(0, 1), (1, 0)], ([0, 1], [1, 0]), ((0, 1), (1, 0)), [[0, 1], (1, 0)]):
            with self.subTest(rows=rows):
                self.assert_picture(self.ask(Picture, 1, rows), 1, [[0, 1], [1, 0]])

    def test_a_later_change_of_the_lists_does_not_reach_it(self):
        rows = [[1, 2], [3, 4]]
        picture = Picture(4, rows)
        rows[0][0] = 4
        rows[1].append(0)
        rows.append([0, 0])
        self.assert_picture(picture, 4, [[1, 2], [3, 4]])
        self.assertEqual((high(picture), wide(picture), shades_sum(picture)), (2, 2, 10))

    def test_one_list_handed_in_as_two_rows(self):
        row = [1, 2]
        picture = Picture(2, [row, row])
        row[0] = 0
        self.assert_picture(picture, 2, [[1, 2], [1, 2]])

    def test_rows_told_may_be_handed_in_again(self):
        picture = made(3, 4)
        self.assert_same(self.ask(Picture, picture.most, picture.rows), picture)

    def test_least_and_greatest_shades_at_every_place(self):
        for most in (1, 2, HUGE):
            for row in range(3):
                for column in range(3):
                    rows = [[most] * 3 for line in range(3)]
                    rows[row][column] = 0
                    self.assert_picture(Picture(most, rows), most, rows)

    def test_numbers_beyond_the_bounds_are_not_refused(self):
        self.assert_picture(Picture(ENDLESS, [[ENDLESS, 0]]), ENDLESS, [[ENDLESS, 0]])
        self.assertEqual(wide(Picture(1, [[0] * 70] * 66)), 70)


class RefusedPictureTest(DotTest):
    def test_most_below_one(self):
        for most in (0, -1, -2, -HUGE, -ENDLESS):
            self.assert_refused(NoPicture, Picture, most, [[0]])

    def test_most_below_one_with_the_shades_below_it(self):
        self.assert_refused(NoPicture, Picture, -1, [[-1]])

    def test_no_rows_and_no_cells(self):
        for rows in ([], (), [[]], ((),), [[], []], [(), []], [[]] * 64):
            with self.subTest(rows=rows):
                self.assert_refused(NoPicture, Picture, 1, rows)

    def test_a_row_of_another_length_at_any_place(self):
        for number in (2, 3, 5):
            for place in range(number):
                for length in (0, 1, 3, 4):
                    rows = [[1, 1] for row in range(number)]
                    rows[place] = [1] * length
                    with self.subTest(rows=rows):
                        self.assert_refused(NoPicture, Picture, 1, rows)

    def test_a_wrong_shade_at_any_place(self):
        for most, wrong in ((1, (-1, 2)), (9, (-1, 10, -HUGE, HUGE)), (HUGE, (-1, HUGE + 1, -HUGE, ENDLESS, -ENDLESS))):
            for shade in wrong:
                for place in range(12):
                    rows = [[0, 1, 0, 1] for row in range(3)]
                    rows[place // 4][place % 4] = shade
                    self.assert_refused(NoPicture, Picture, most, rows)

    def test_a_wrong_shade_in_the_one_cell(self):
        for shade in (-1, 2):
            self.assert_refused(NoPicture, Picture, 1, [[shade]])

    def test_a_refusal_leaves_the_lists_usable(self):
        rows = [[0, 1], [2, 0]]
        self.assert_refused(NoPicture, Picture, 1, rows)
        self.assert_picture(Picture(2, rows), 2, [[0, 1], [2, 0]])


class AskedPictureTest(DotTest):
    def test_high_and_wide(self):
        for shape in SHAPES:
            with self.subTest(shape=shape):
                picture = made(*shape)
                self.assertEqual((self.ask(high, picture), self.ask(wide, picture)), shape)

    def test_shade_at_each_cell(self):
        for shape in SHAPES:
            with self.subTest(shape=shape):
                picture = numbered(*shape)
                for row in range(shape[0]):
                    for column in range(shape[1]):
                        self.assertEqual(shade_at(picture, (row, column)), row * shape[1] + column)

    def test_shade_at_outside(self):
        for tall, broad in SHAPES:
            picture = made(tall, broad)
            outside = [(row, column) for row in range(tall) for column in (-1, broad, -broad, -HUGE, HUGE)]
            outside += [(row, column) for row in (-1, tall, -tall, -HUGE, HUGE) for column in range(broad)]
            outside += [(row, column) for row in (-1, tall) for column in (-1, broad)]
            outside += [(HUGE, HUGE), (-HUGE, -HUGE), (ENDLESS, 0), (0, -ENDLESS)]
            for cell in outside:
                self.assert_refused(OutOfPicture, shade_at, picture, cell)

    def test_shades_sum(self):
        self.assertEqual(self.ask(shades_sum, Picture(1, [[0]])), 0)
        self.assertEqual(self.ask(shades_sum, Picture(7, [[7]])), 7)
        self.assertEqual(self.ask(shades_sum, Picture(9, [[1, 2, 3], [4, 5, 9]])), 24)
        self.assertEqual(self.ask(shades_sum, Picture(9, [[1], [2], [8]])), 11)
        self.assertEqual(self.ask(shades_sum, Picture(HUGE, [[HUGE] * 64] * 64)), 4096 * HUGE)
        self.assertEqual(shades_sum(numbered(64, 64)), 4096 * 4095 // 2)


if __name__ == "__main__":
    unittest.main()
