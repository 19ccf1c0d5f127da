"""[5] parts of pictures, and pictures joined."""

import unittest

from dotscreen.errors import NoMeet, OutOfPicture
from dotscreen.pictures import Picture, below, beside, high, part_of, wide
from tests.helpers import ENDLESS, HUGE, DotTest, made, numbered, plain


class PartTest(DotTest):
    def test_every_part(self):
        for tall, broad in ((1, 1), (1, 4), (4, 1), (3, 4), (4, 3)):
            picture = numbered(tall, broad)
            for top in range(tall):
                for left in range(broad):
                    for down in range(1, tall - top + 1):
                        for right in range(1, broad - left + 1):
                            due = [[row * broad + column for column in range(left, left + right)]
                                   for row in range(top, top + down)]
                            part = self.ask(part_of, picture, top, left, down, right)
                            self.assert_picture(part, picture.most, due)

    def test_the_whole_is_a_picture_of_its_own(self):
        picture = made(64, 64)
        whole = part_of(picture, 0, 0, 64, 64)
        self.assert_same(whole, picture)
        self.assertIsNot(whole, picture)

    def test_the_most_stays_where_the_part_has_it_not(self):
        self.assert_picture(part_of(Picture(HUGE, [[0, HUGE]]), 0, 0, 1, 1), HUGE, [[0]])

    def test_no_cell(self):
        picture = made(3, 4)
        for none in (0, -1, -2, -3, -4, -HUGE, -ENDLESS):
            for top, left in ((0, 0), (1, 1), (2, 3), (3, 4), (4, 5)):
                self.assert_refused(OutOfPicture, part_of, picture, top, left, none, 1)
                self.assert_refused(OutOfPicture, part_of, picture, top, left, 1, none)
                self.assert_refused(OutOfPicture, part_of, picture, top, left, none, none)

    def test_begins_below_nought(self):
        picture = made(3, 4)
        for below_nought in (-1, -2, -3, -4, -HUGE, -ENDLESS):
            for size in ((1, 1), (2, 2), (3, 4)):
                self.assert_refused(OutOfPicture, part_of, picture, below_nought, 0, *size)
                self.assert_refused(OutOfPicture, part_of, picture, 0, below_nought, *size)
                self.assert_refused(OutOfPicture, part_of, picture, below_nought, below_nought, *size)

    def test_begins_so_far_below_nought_that_it_ends_within(self):
        self.assert_refused(OutOfPicture, part_of, made(3, 4), -HUGE, 0, HUGE + 1, 1)
        self.assert_refused(OutOfPicture, part_of, made(3, 4), 0, -HUGE, 1, HUGE + 1)

    def test_one_row_or_column_beyond(self):
        picture = made(3, 4)
        for top in range(4):
            self.assert_refused(OutOfPicture, part_of, picture, top, 0, 4 - top, 1)
        for left in range(5):
            self.assert_refused(OutOfPicture, part_of, picture, 0, left, 1, 5 - left)

    def test_far_beyond(self):
        picture = made(3, 4)
        for far in (5, 100, HUGE, ENDLESS):
            for place in range(4):
                handed = [0, 0, 1, 1]
                handed[place] = far
                self.assert_refused(OutOfPicture, part_of, picture, *handed)


class JoinTest(DotTest):
    def test_beside(self):
        one = Picture(9, [[1, 2], [3, 4]])
        other = Picture(9, [[5], [6]])
        self.assert_picture(self.ask(beside, one, other), 9, [[1, 2, 5], [3, 4, 6]])
        self.assert_picture(self.ask(beside, other, one), 9, [[5, 1, 2], [6, 3, 4]])

    def test_below(self):
        one = Picture(9, [[1, 2], [3, 4]])
        other = Picture(9, [[5, 6]])
        self.assert_picture(self.ask(below, one, other), 9, [[1, 2], [3, 4], [5, 6]])
        self.assert_picture(self.ask(below, other, one), 9, [[5, 6], [1, 2], [3, 4]])

    def test_a_picture_with_itself(self):
        one = Picture(HUGE, [[1, 2], [3, HUGE]])
        self.assert_picture(self.ask(beside, one, one), HUGE, [[1, 2, 1, 2], [3, HUGE, 3, HUGE]])
        self.assert_picture(self.ask(below, one, one), HUGE, [[1, 2], [3, HUGE], [1, 2], [3, HUGE]])

    def test_parts_of_what_was_joined_are_the_two_again(self):
        for common, first, second in ((1, 1, 1), (3, 2, 5), (64, 64, 64)):
            one = made(common, first, 9, 1)
            other = made(common, second, 9, 5)
            joined = self.ask(beside, one, other)
            self.assertEqual((high(joined), wide(joined)), (common, first + second))
            self.assert_same(part_of(joined, 0, 0, common, first), one)
            self.assert_same(part_of(joined, 0, first, common, second), other)
            one = made(first, common, 9, 1)
            other = made(second, common, 9, 5)
            joined = self.ask(below, one, other)
            self.assertEqual((high(joined), wide(joined)), (first + second, common))
            self.assert_same(part_of(joined, 0, 0, first, common), one)
            self.assert_same(part_of(joined, first, 0, second, common), other)

    def test_what_was_told_may_be_joined_again(self):
        joined = made(1, 1)
        for step in range(8):
            joined = below(beside(joined, joined), beside(joined, joined))
        self.assertEqual((high(joined), wide(joined)), (256, 256))

    def test_another_most(self):
        for join in (beside, below):
            for most, other in ((1, 2), (2, 1), (HUGE, HUGE - 1), (9, ENDLESS)):
                self.assert_refused(NoMeet, join, Picture(most, [[1, 0]]), Picture(other, [[1, 0]]))

    def test_another_number_of_rows_or_columns(self):
        for first, second in ((1, 2), (2, 1), (3, 64), (64, 63)):
            for across in (1, 2, 3):
                self.assert_refused(NoMeet, beside, made(first, across), made(second, across))
                self.assert_refused(NoMeet, below, made(across, first), made(across, second))

    def test_the_other_number_may_differ(self):
        self.assertEqual(wide(beside(made(2, 3), made(2, 4))), 7)
        self.assertEqual(high(below(made(3, 2), made(4, 2))), 7)

    def test_the_two_stay_as_they_were(self):
        one = made(3, 3)
        other = made(3, 3, 9, 4)
        ahead = plain([one, other])
        beside(one, other)
        below(one, other)
        part_of(beside(one, other), 1, 1, 2, 4)
        self.assertEqual(plain([one, other]), ahead)


if __name__ == "__main__":
    unittest.main()
