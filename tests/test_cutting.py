"""[6] pictures cut up and put together again."""

import itertools
import unittest

from dotscreen.cutting import cut_up, put_together
from dotscreen.errors import NoMeet, OutOfPicture
from dotscreen.pictures import Picture, part_of
from tests.helpers import ENDLESS, HUGE, DotTest, made, numbered, plain

SHAPES = [(1, 1), (1, 6), (6, 1), (4, 6), (5, 7)]
SIZES = [(1, 1), (1, 2), (2, 1), (2, 2), (2, 3), (3, 2), (4, 6), (5, 7), (4, 7), (9, 9), (1, HUGE), (HUGE, 1),
         (HUGE, HUGE)]


class CutTest(DotTest):
    def test_a_picture_that_the_size_divides(self):
        picture = Picture(9, [[1, 2, 3, 4], [5, 6, 7, 8]])
        self.assert_equal(plain(self.ask(cut_up, picture, 1, 2)), plain([
            (0, 0, Picture(9, [[1, 2]])), (0, 2, Picture(9, [[3, 4]])),
            (1, 0, Picture(9, [[5, 6]])), (1, 2, Picture(9, [[7, 8]]))]))

    def test_the_last_ones_are_fewer(self):
        picture = Picture(9, [[1, 2, 3], [4, 5, 6], [7, 8, 9]])
        self.assert_equal(plain(self.ask(cut_up, picture, 2, 2)), plain([
            (0, 0, Picture(9, [[1, 2], [4, 5]])), (0, 2, Picture(9, [[3], [6]])),
            (2, 0, Picture(9, [[7, 8]])), (2, 2, Picture(9, [[9]]))]))

    def test_any_size(self):
        for tall, broad in SHAPES:
            picture = numbered(tall, broad)
            for size in SIZES + [(tall, broad), (tall + 1, broad + 1), (tall, ENDLESS)]:
                due = [(top, left, part_of(picture, top, left, min(size[0], tall - top), min(size[1], broad - left)))
                       for top in range(0, tall, size[0]) for left in range(0, broad, size[1])]
                self.assert_equal(plain(self.ask(cut_up, picture, *size)), plain(due))

    def test_sixty_four_of_one_cell(self):
        pieces = cut_up(numbered(64, 64), 1, 1)
        self.assert_equal([(top, left) for top, left, piece in pieces],
                         [(row, column) for row in range(64) for column in range(64)])
        self.assert_equal([piece.rows for top, left, piece in pieces], [((shade,),) for shade in range(4096)])

    def test_no_cell(self):
        picture = made(3, 4)
        for none in (0, -1, -3, -4, -HUGE, -ENDLESS):
            self.assert_refused(OutOfPicture, cut_up, picture, none, 1)
            self.assert_refused(OutOfPicture, cut_up, picture, 1, none)
            self.assert_refused(OutOfPicture, cut_up, picture, none, none)
            self.assert_refused(OutOfPicture, cut_up, picture, none, HUGE)

    def test_what_was_told_is_the_askers_own(self):
        picture = made(3, 4)
        told = cut_up(picture, 2, 2)
        again = cut_up(picture, 2, 2)
        self.assertIsNot(told, again)
        ahead = plain(again)
        told.reverse()
        told.pop()
        told[0] = None
        self.assert_equal(plain(again), ahead)
        self.assert_equal(plain(cut_up(picture, 2, 2)), ahead)

    def test_the_pieces_are_pictures_of_their_own(self):
        picture = made(2, 2)
        self.assertIsNot(cut_up(picture, HUGE, HUGE)[0][2], picture)


class PutTogetherTest(DotTest):
    def assert_no_meet(self, pieces):
        self.assert_refused(NoMeet, put_together, pieces)
        self.assert_refused(NoMeet, put_together, tuple(pieces))
        self.assert_refused(NoMeet, put_together, pieces[::-1])

    def test_what_was_cut_up(self):
        for tall, broad in SHAPES:
            picture = numbered(tall, broad)
            for size in SIZES:
                pieces = cut_up(picture, *size)
                for order in (pieces, pieces[::-1], tuple(pieces), pieces[1::2] + pieces[::2]):
                    self.assert_same(self.ask(put_together, order), picture)

    def test_every_order(self):
        picture = numbered(3, 5)
        for order in itertools.permutations(cut_up(picture, 2, 2)):
            self.assert_same(put_together(order), picture)

    def test_sixty_four_of_one_cell(self):
        picture = numbered(64, 64)
        self.assert_same(put_together(cut_up(picture, 1, 1)[::-1]), picture)

    def test_pieces_that_no_cut_tells(self):
        pieces = [(0, 0, Picture(9, [[1, 1]])), (0, 2, Picture(9, [[2], [2]])), (2, 1, Picture(9, [[3, 3]])),
                  (1, 0, Picture(9, [[4], [4]])), (1, 1, Picture(9, [[5]]))]
        self.assert_picture(self.ask(put_together, pieces), 9, [[1, 1, 2], [4, 5, 2], [4, 3, 3]])

    def test_one_picture_at_several_places(self):
        one = Picture(HUGE, [[0, HUGE]])
        pieces = [(0, 0, one), (1, 0, one), (0, 2, one), (1, 2, one)]
        self.assert_picture(self.ask(put_together, pieces), HUGE, [[0, HUGE, 0, HUGE]] * 2)

    def test_the_list_is_not_kept(self):
        pieces = cut_up(made(3, 4), 2, 2)
        picture = put_together(pieces)
        pieces.clear()
        self.assert_same(picture, made(3, 4))

    def test_no_piece(self):
        self.assert_no_meet([])

    def test_one_left_out_or_twice(self):
        for size in ((1, 1), (2, 2), (2, 3), (1, 5), (4, 1)):
            pieces = cut_up(made(4, 5), *size)
            for place in range(len(pieces) - 1):
                self.assert_no_meet(pieces[:place] + pieces[place + 1:])
            for piece in pieces:
                self.assert_no_meet(pieces + [piece])

    def test_the_last_one_left_out(self):
        pieces = cut_up(made(4, 5), 2, 2)
        self.assert_no_meet(pieces[:-1])
        self.assert_same(put_together(cut_up(made(4, 5), 4, 2)[:-1]), part_of(made(4, 5), 0, 0, 4, 4))

    def test_one_in_the_place_of_another(self):
        # As many cells as are due: one is in two pieces, and one is in none.
        pieces = cut_up(made(4, 4), 2, 2)
        for place in range(4):
            for other in range(4):
                if place != other:
                    swapped = list(pieces)
                    swapped[place] = pieces[other]
                    self.assert_no_meet(swapped)

    def test_two_that_share_a_cell(self):
        one = made(2, 2)
        self.assert_no_meet([(0, 0, one), (1, 1, one)])
        self.assert_no_meet([(0, 0, one), (0, 1, one)])
        self.assert_no_meet([(0, 0, one), (1, 0, one)])
        self.assert_no_meet([(0, 0, made(3, 3)), (1, 1, made(1, 1))])

    def test_as_many_cells_as_due_but_one_twice_and_one_in_none(self):
        # Two rows of three, six cells: the cell (0, 1) is twice there, (1, 0) is not.
        self.assert_no_meet([(0, 0, made(1, 2)), (0, 1, made(1, 2)), (1, 1, made(1, 2))])

    def test_another_most(self):
        for place in range(4):
            pieces = cut_up(Picture(2, [[0, 1], [1, 0]]), 1, 1)
            top, left, piece = pieces[place]
            for most in (1, 3, HUGE):
                pieces[place] = (top, left, Picture(most, piece.rows))
                self.assert_no_meet(pieces)

    def test_begins_below_nought(self):
        one = made(2, 2)
        for far in (-1, -2, -3, -HUGE, -ENDLESS):
            self.assert_no_meet([(far, 0, one)])
            self.assert_no_meet([(0, far, one)])
            self.assert_no_meet([(far, far, one)])
            self.assert_no_meet([(0, 0, one), (far, 0, one)])
            self.assert_no_meet([(0, 0, one), (0, far, one)])

    def test_all_begin_below_nought_by_as_much(self):
        self.assert_no_meet([(-1, 0, made(1, 2)), (0, 0, made(1, 2))])
        self.assert_no_meet([(0, -1, made(2, 1)), (0, 0, made(2, 1))])

    def test_below_nought_though_the_cells_are_as_many_as_due(self):
        # Counted from the end, as Python counts places below nought, each of these would fill its picture.
        self.assert_no_meet([(-1, 0, made(1, 1)), (0, 0, made(1, 1)), (0, 1, made(2, 1))])
        self.assert_no_meet([(0, -1, made(1, 1)), (0, 0, made(1, 1)), (1, 0, made(1, 2))])
        self.assert_no_meet([(-2, 0, made(1, 1)), (1, 0, made(1, 1)), (0, 1, made(2, 1))])
        self.assert_no_meet([(0, -2, made(1, 1)), (0, 1, made(1, 1)), (1, 0, made(1, 2))])

    def test_none_begins_at_nought(self):
        self.assert_no_meet([(1, 0, made(1, 1))])
        self.assert_no_meet([(0, 1, made(1, 1))])

    def test_one_moved_by_a_place(self):
        pieces = cut_up(made(4, 5), 2, 2)
        for place, (top, left, piece) in enumerate(pieces):
            for down, right in ((1, 0), (-1, 0), (0, 1), (0, -1), (1, 1), (-1, -1)):
                moved = list(pieces)
                moved[place] = (top + down, left + right, piece)
                self.assert_no_meet(moved)

    def test_very_far_off(self):
        one = made(1, 1)
        for far in (10 ** 9, HUGE, ENDLESS):
            self.assert_no_meet([(far, 0, one)])
            self.assert_no_meet([(0, far, one)])
            self.assert_no_meet([(far, far, one)])
            self.assert_no_meet([(0, 0, one), (far, 0, one)])
            self.assert_no_meet([(0, 0, one), (0, far, one)])
            self.assert_no_meet([(0, 0, one), (0, 0, one), (far, far, one)])

    def test_a_refusal_leaves_the_pieces_usable(self):
        picture = made(4, 5)
        pieces = cut_up(picture, 2, 2)
        last = pieces.pop()
        self.assert_refused(NoMeet, put_together, pieces)
        pieces.append(last)
        self.assert_same(put_together(pieces), picture)


if __name__ == "__main__":
    unittest.main()
