"""[11] inks and pictures made to dots by a tile, [12] what follows for such dots."""

import unittest

from dotscreen.cutting import cut_up, put_together
from dotscreen.errors import NoInks
from dotscreen.pictures import Picture, part_of, shades_sum
from dotscreen.screens import ask_inks, screened
from dotscreen.tilemaking import doubled_tile, spread_tile
from dotscreen.tiles import Tile, threshold_at
from tests.helpers import HUGE, DotTest, inks_of, made, made_tile, numbered, numbered_tile, plain, spoilt_inks

PLACES = [(0, 0), (1, 0), (0, 1), (2, 5), (-1, -1), (-7, 3), (HUGE, -HUGE), (-HUGE, HUGE - 1)]
TILES = [made_tile(1, 1), made_tile(1, 4), made_tile(3, 1), made_tile(3, 4, 5, 2), spread_tile(2, 3), doubled_tile(2),
         Tile(HUGE, [[1, HUGE], [HUGE // 2, HUGE // 3]]), Tile(1, [[1, 1], [1, 1]]), numbered_tile(64, 1)]


def dot(shade, threshold, count, inks):
    """As the document tells it."""
    below = max(ink for ink in inks if ink <= shade)
    if below == inks[-1]:
        return below
    above = min(ink for ink in inks if ink > shade)
    return above if (shade - below) * count >= threshold * (above - below) else below


def dots(picture, tile, inks, top, left):
    return [[dot(shade, threshold_at(tile, row + top, column + left), tile.count, inks)
             for column, shade in enumerate(shades)] for row, shades in enumerate(picture.rows)]


class InksTest(DotTest):
    def test_the_right_ones_are_let_by(self):
        for most in (1, 2, 9, 1000, HUGE):
            self.assertIs(self.ask(ask_inks, [0, most], most), None)
            self.assertIs(self.ask(ask_inks, (0, most), most), None)
        for number in range(3, 21):
            for most in (1000, HUGE):
                self.assertIs(self.ask(ask_inks, inks_of(number, most), most), None)
                self.assertIs(self.ask(ask_inks, tuple(inks_of(number, most)), most), None)
        self.assertIs(self.ask(ask_inks, list(range(20)), 19), None)
        self.assertIs(self.ask(ask_inks, [0, 1, HUGE - 1, HUGE], HUGE), None)
        self.assertIs(self.ask(ask_inks, list(range(30)), 29), None)

    def test_the_wrong_ones(self):
        for inks, most in spoilt_inks():
            self.assert_refused(NoInks, ask_inks, inks, most)
            self.assert_refused(NoInks, ask_inks, tuple(inks), most)

    def test_one_alone_that_is_the_first_and_the_last(self):
        self.assert_refused(NoInks, ask_inks, [0], 0)

    def test_the_wrong_ones_from_screened(self):
        for inks, most in spoilt_inks():
            picture = Picture(most, [[0, 1], [most, 4]])
            for tile in (Tile(1, [[1]]), made_tile(2, 3)):
                self.assert_refused(NoInks, screened, picture, tile, inks)
                self.assert_refused(NoInks, screened, picture, tile, tuple(inks), 3, -4)

    def test_the_wrong_ones_where_no_shade_comes_near_them(self):
        picture = Picture(9, [[0]])
        for inks in ([0, 9, 9], [0, 5, 4, 9], [0, 8], [0, 10], [0]):
            self.assert_refused(NoInks, screened, picture, Tile(1, [[1]]), inks)

    def test_inks_of_another_most(self):
        for most in (8, 10):
            self.assert_refused(NoInks, screened, made(2, 2, 9), made_tile(2, 2), [0, 4, most])


class ScreenedTest(DotTest):
    def test_two_inks(self):
        tile = Tile(4, [[1, 3], [4, 2]])
        for shade, due in ((0, [[0, 0], [0, 0]]), (1, [[0, 0], [0, 0]]), (2, [[8, 0], [0, 0]]), (3, [[8, 0], [0, 0]]),
                           (4, [[8, 0], [0, 8]]), (5, [[8, 0], [0, 8]]), (6, [[8, 8], [0, 8]]), (7, [[8, 8], [0, 8]]),
                           (8, [[8, 8], [8, 8]])):
            told = self.ask(screened, Picture(8, [[shade] * 2] * 2), tile, [0, 8])
            self.assert_picture(told, 8, due)

    def test_three_inks(self):
        tile = Tile(2, [[1, 2]])
        told = self.ask(screened, Picture(10, [[0, 0], [1, 1], [2, 3], [4, 4], [6, 6], [7, 9], [10, 10]]), tile,
                        [0, 4, 10])
        self.assert_picture(told, 10, [[0, 0], [0, 0], [4, 0], [4, 4], [4, 4], [10, 4], [10, 10]])

    def test_just_where_the_threshold_turns_it(self):
        for count in (1, 2, 7, 64, HUGE):
            for threshold in sorted({1, min(2, count), (count + 1) // 2, max(count - 1, 1), count}):
                for inks in ([0, HUGE], [0, 10, HUGE], [0, 1, 5, HUGE // 3, HUGE]):
                    self.assert_turned(Tile(count, [[threshold]]), threshold, inks)

    def assert_turned(self, tile, threshold, inks):
        for below, above in zip(inks, inks[1:]):
            turn = below - (-threshold * (above - below) // tile.count)
            for shade, due in ((turn, above), (turn - 1, below), (below, below), (above, above)):
                told = screened(Picture(inks[-1], [[shade]]), tile, inks)
                self.assert_picture(told, inks[-1], [[due]])

    def test_every_shade_and_threshold(self):
        for most in (1, 2, 12):
            for inks in ([0, most], list(range(most + 1)), sorted({0, most // 3, most // 2, most})):
                for count in range(1, 8):
                    tile = Tile(count, [[threshold] for threshold in range(1, count + 1)])
                    picture = Picture(most, [list(range(most + 1))] * count)
                    told = self.ask(screened, picture, tile, inks)
                    self.assert_picture(told, most, dots(picture, tile, inks, 0, 0))

    def test_two_to_twenty_inks(self):
        for number in range(2, 21):
            for most in (999, HUGE):
                picture = Picture(most, [[most * place // 63 for place in range(row, row + 60)] for row in range(4)])
                inks = inks_of(number, most)
                for tile in TILES:
                    told = self.ask(screened, picture, tile, inks)
                    self.assert_picture(told, most, dots(picture, tile, inks, 0, 0))

    def test_an_ink_stays_as_it_is(self):
        for number in range(2, 21):
            for most in (1000, HUGE):
                inks = inks_of(number, most)
                for tile in TILES:
                    self.assert_picture(screened(Picture(most, [inks, inks]), tile, inks), most, [inks, inks])

    def test_top_and_left(self):
        picture = made(5, 6, 20)
        for tile in TILES:
            for top, left in PLACES:
                told = self.ask(screened, picture, tile, [0, 6, 20], top, left)
                self.assert_picture(told, 20, dots(picture, tile, [0, 6, 20], top, left))

    def test_top_goes_down_and_left_goes_right(self):
        tile = Tile(6, [[1, 2, 3], [4, 5, 6]])
        picture = Picture(6, [[3]])
        due = {(top, left): (6 if (top % 2) * 3 + left % 3 + 1 <= 3 else 0) for top in range(3) for left in range(4)}
        for (top, left), ink in due.items():
            self.assert_picture(screened(picture, tile, [0, 6], top, left), 6, [[ink]])

    def test_top_and_left_left_out(self):
        for tile in TILES:
            picture, inks = made(5, 6), [0, 4, 9]
            self.assert_same(self.ask(screened, picture, tile, inks), screened(picture, tile, inks, 0, 0))
            self.assert_same(self.ask(screened, picture, tile, inks, 2), screened(picture, tile, inks, 2, 0))

    def test_inks_as_a_tuple(self):
        told = self.ask(screened, made(5, 6), made_tile(2, 3), (0, 4, 9))
        self.assert_same(told, screened(made(5, 6), made_tile(2, 3), [0, 4, 9]))

    def test_a_picture_of_sixty_four_and_one_of_one_cell(self):
        tile = doubled_tile(6)
        self.assert_picture(screened(numbered(64, 64), tile, [0, 4096]), 4096,
                            dots(numbered(64, 64), tile, [0, 4096], 0, 0))
        self.assert_picture(screened(Picture(1, [[1]]), tile, [0, 1]), 1, [[1]])
        self.assert_picture(screened(Picture(1, [[0]]), tile, [0, 1]), 1, [[0]])

    def test_what_was_told_may_be_handed_in_again(self):
        once = screened(made(5, 6), made_tile(2, 3), [0, 4, 9])
        again = self.ask(screened, once, made_tile(3, 2), [0, 4, 9])
        self.assert_same(again, once)
        self.assertIsNot(again, once)

    def test_what_was_handed_in_stays_and_is_not_kept(self):
        picture, tile, inks = made(5, 6), made_tile(2, 3), [0, 4, 9]
        ahead = plain([picture, tile, inks])
        told = screened(picture, tile, inks, 1, 1)
        self.assert_equal(plain([picture, tile, inks]), ahead)
        due = plain(told)
        inks.clear()
        self.assert_equal(plain(told), due)
        self.assert_refused(NoInks, screened, picture, tile, inks)
        self.assert_equal(plain([picture, tile]), ("list", ahead[1][:2]))


class FollowsTest(DotTest):
    def test_dots_are_nowhere_less_where_no_shade_is(self):
        for most, inks in ((20, [0, 6, 7, 20]), (HUGE, [0, HUGE // 2, HUGE])):
            light = made(6, 7, 15)
            light = Picture(most, [[most * shade // 20 for shade in row] for row in light.rows])
            for darker in (0, 1, 2, most // 5):
                dark = Picture(most, [[min(most, shade + darker * ((row + column) % 2))
                                       for column, shade in enumerate(shades)]
                                      for row, shades in enumerate(light.rows)])
                for tile in TILES:
                    for top, left in PLACES:
                        self.assert_no_less(screened(dark, tile, inks, top, left),
                                            screened(light, tile, inks, top, left))

    def assert_no_less(self, dark, light):
        for row, other in zip(dark.rows, light.rows):
            for shade, lesser in zip(row, other):
                self.assertGreaterEqual(shade, lesser)

    def test_shade_by_shade(self):
        for tile in TILES:
            told = [screened(Picture(30, [[shade] * 8] * 8), tile, [0, 3, 4, 17, 30]) for shade in range(31)]
            for light, dark in zip(told, told[1:]):
                self.assert_no_less(dark, light)

    def test_the_pieces_put_together_are_the_picture_screened(self):
        picture = made(7, 9, 20)
        inks = [0, 6, 7, 20]
        for tile in TILES:
            for size in ((1, 1), (2, 2), (3, 4), (7, 1), (1, 9), (64, 64)):
                pieces = [(top, left, self.ask(screened, piece, tile, inks, top, left))
                          for top, left, piece in cut_up(picture, *size)]
                self.assert_same(put_together(pieces), screened(picture, tile, inks))

    def test_the_pieces_with_any_top_and_left_beneath(self):
        picture = made(7, 9, 20)
        inks = [0, 6, 7, 20]
        for tile in TILES:
            for down, right in PLACES:
                pieces = [(top, left, screened(piece, tile, inks, down + top, right + left))
                          for top, left, piece in cut_up(picture, 3, 4)]
                self.assert_same(put_together(pieces), screened(picture, tile, inks, down, right))

    def test_all_parts_of_the_tiles_size_have_the_same_sum(self):
        for tile in (made_tile(1, 1), made_tile(1, 4), made_tile(3, 1), made_tile(3, 4, 5), spread_tile(4, 3),
                     doubled_tile(2)):
            high, wide = len(tile.rows), len(tile.rows[0])
            for shade in range(21):
                picture = Picture(20, [[shade] * (3 * wide + 1)] * (3 * high + 1))
                for top, left in PLACES[:4]:
                    told = screened(picture, tile, [0, 6, 20], top, left)
                    sums = {shades_sum(part_of(told, row, column, high, wide))
                            for row in range(2 * high + 2) for column in range(2 * wide + 2)}
                    self.assertEqual(len(sums), 1)


if __name__ == "__main__":
    unittest.main()
