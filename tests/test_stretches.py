"""[22] dots counted by stretches along a way, and laid along it again."""

import itertools
import unittest

from dotscreen.errors import NoPicture, NoStretches, OutOfPicture
from dotscreen.handing import handed
from dotscreen.pictures import Picture
from dotscreen.stretches import laid_along, stretches_along
from dotscreen.ways import ColumnWay, FoldedWay, FroWay, MaskedWay, Way
from tests.helpers import ENDLESS, HUGE, DotTest, by_rows, drawn, made, numbered, ways_through

SIZES = [(1, 1), (1, 9), (9, 1), (2, 2), (5, 6), (7, 3)]
WAYS = [Way(), FroWay(), ColumnWay(), FoldedWay()]


def pictures(high, wide):
    """Of one shade, of few and of many."""
    yield from [Picture(9, [[0] * wide] * high), Picture(HUGE, [[HUGE] * wide] * high), drawn(high, wide, 1, 3),
                drawn(high, wide, HUGE, 4), made(high, wide), numbered(high, wide),
                handed(made(high, wide), FroWay(), [3, 1], [0, 4, 9])]


def along(picture, way):
    return [picture.rows[row][column] for row, column in way.order(len(picture.rows), len(picture.rows[0]))]


class AlongTest(DotTest):
    def test_by_hand(self):
        picture = Picture(9, [[1, 1, 2], [2, 1, 2]])
        for way, due in ((Way(), [(1, 2), (2, 2), (1, 1), (2, 1)]), (FroWay(), [(1, 2), (2, 2), (1, 1), (2, 1)]),
                         (ColumnWay(), [(1, 1), (2, 1), (1, 2), (2, 2)]),
                         (MaskedWay(Way(), [(1, 1)]), [(1, 2), (2, 3)])):
            self.assertEqual(self.ask(stretches_along, picture, way), due)

    def test_like_shades_meet_round_a_cell_left_out(self):
        way = MaskedWay(Way(), [(0, 1), (0, 2)])
        self.assertEqual(self.ask(stretches_along, Picture(9, [[5, 1, 2, 5]]), way), [(5, 2)])

    def test_each_as_long_as_can_be(self):
        for size in SIZES:
            for picture in pictures(*size):
                for way in ways_through(*size):
                    told = self.ask(stretches_along, picture, way)
                    due = [(shade, len(list(group))) for shade, group in itertools.groupby(along(picture, way))]
                    self.assert_equal(told, due)
                    self.assertIs(type(told), list)
                    self.assertLessEqual({type(pair) for pair in told}, {tuple})

    def test_of_one_shade_one_stretch(self):
        for high, wide in SIZES + [(64, 64)]:
            for way in WAYS:
                self.assertEqual(stretches_along(Picture(9, [[7] * wide] * high), way), [(7, high * wide)])

    def test_sixty_four(self):
        told = self.ask(stretches_along, numbered(64, 64), FoldedWay())
        self.assert_equal(told, [(shade, 1) for shade in along(numbered(64, 64), FoldedWay())])

    def test_all_cells_left_out(self):
        for size in SIZES:
            for way in WAYS:
                self.assertEqual(self.ask(stretches_along, made(*size), MaskedWay(way, by_rows(*size))), [])

    def test_what_was_told_may_be_changed(self):
        for way in WAYS:
            self.assert_told_anew(stretches_along, made(3, 4), way)
        stretches_along(made(1, 1), MaskedWay(Way(), [(0, 0)])).append((1, 1))
        self.assertEqual(stretches_along(made(1, 1), MaskedWay(Way(), [(0, 0)])), [])


class LaidTest(DotTest):
    def test_by_hand(self):
        told = self.ask(laid_along, 9, 2, 3, FroWay(), [(1, 2), (9, 2), (0, 1), (4, 1)])
        self.assert_picture(told, 9, [[1, 1, 9], [4, 0, 9]])
        told = self.ask(laid_along, 9, 2, 2, MaskedWay(ColumnWay(), [(0, 0)]), [(1, 2), (9, 1)])
        self.assert_picture(told, 9, [[0, 1], [1, 9]])

    def test_laid_back_with_paper_at_the_cells_left_out(self):
        for high, wide in SIZES:
            for picture in pictures(high, wide):
                for way in ways_through(high, wide):
                    kept = way.order(high, wide)
                    due = [[shade if (row, column) in kept else 0 for column, shade in enumerate(shades)]
                           for row, shades in enumerate(picture.rows)]
                    told = self.ask(laid_along, picture.most, high, wide, way, stretches_along(picture, way))
                    self.assert_picture(told, picture.most, due)

    def test_sixty_four(self):
        for high, wide in ((64, 1), (1, 64), (64, 64)):
            for picture in (numbered(high, wide), drawn(high, wide, HUGE, 8)):
                told = laid_along(picture.most, high, wide, FoldedWay(), stretches_along(picture, FoldedWay()))
                self.assert_same(told, picture)

    def test_like_shades_side_by_side(self):
        for way in WAYS:
            picture = drawn(4, 5, 2, 6)
            stretches = stretches_along(picture, way)
            for place, (shade, count) in enumerate(stretches):
                for first in range(1, count):
                    parted = stretches[:place] + [(shade, first), (shade, count - first)] + stretches[place + 1:]
                    self.assert_same(self.ask(laid_along, 2, 4, 5, way, parted), picture)
            single = [(shade, 1) for shade in along(picture, way)]
            self.assert_same(self.ask(laid_along, 2, 4, 5, way, single), picture)

    def test_as_a_tuple(self):
        stretches = stretches_along(made(4, 5), FroWay())
        self.assert_same(self.ask(laid_along, 9, 4, 5, FroWay(), tuple(stretches)), made(4, 5))
        way = MaskedWay(Way(), by_rows(2, 3))
        for none in ([], ()):
            self.assert_picture(self.ask(laid_along, 9, 2, 3, way, none), 9, [[0] * 3] * 2)

    def test_another_most_and_the_greatest_shades(self):
        self.assert_picture(self.ask(laid_along, HUGE, 1, 3, Way(), [(HUGE, 1), (0, 1), (HUGE, 1)]), HUGE,
                            [[HUGE, 0, HUGE]])
        self.assert_picture(self.ask(laid_along, 1, 1, 2, Way(), [(0, 1), (1, 1)]), 1, [[0, 1]])

    def test_the_list_is_not_kept(self):
        stretches = [(3, 2), (5, 2)]
        told = laid_along(9, 2, 2, Way(), stretches)
        stretches.clear()
        self.assert_picture(told, 9, [[3, 3], [5, 5]])


class RefusedTest(DotTest):
    def spoilt(self, cells):
        """Stretches of so many cells, for a most of 9, each wrong in one way."""
        good = [(3, 1), (9, cells - 3), (0, 2)]
        for place, (shade, count) in enumerate(good):
            for wrong in (0, -1, -HUGE, count + 1, count - 1, count + HUGE, HUGE, ENDLESS):
                yield good[:place] + [(shade, wrong)] + good[place + 1:]
            for wrong in (-1, 10, HUGE, -HUGE, ENDLESS):
                yield good[:place] + [(wrong, count)] + good[place + 1:]
            yield good[:place] + good[place + 1:]
            yield good[:place] + [good[place]] + good[place:]
        for place in range(4):
            yield good[:place] + [(5, 0)] + good[place:]
            yield good[:place] + [(5, 1)] + good[place:]
        yield []
        # Together as many as are due, but one of them is below 1.
        yield [(3, cells + 1), (4, -1)]
        yield [(3, -1), (4, cells + 1)]
        yield [(3, cells), (4, 0)]

    def test_the_wrong_stretches(self):
        mask = MaskedWay(Way(), [(0, 0), (1, 1), (9, 9)])
        for way, cells in ((Way(), 12), (FroWay(), 12), (FoldedWay(), 12), (mask, 10), (MaskedWay(mask, [(2, 2)]), 9)):
            for stretches in self.spoilt(cells):
                self.assert_refused(NoStretches, laid_along, 9, 3, 4, way, stretches)
                self.assert_refused(NoStretches, laid_along, 9, 3, 4, way, tuple(stretches))

    def test_stretches_where_there_are_no_cells(self):
        way = MaskedWay(Way(), by_rows(2, 3))
        for stretches in ([(0, 1)], [(0, 0)], [(3, 6)], [(3, 1), (4, -1)]):
            self.assert_refused(NoStretches, laid_along, 9, 2, 3, way, stretches)

    def test_sizes_of_nought_and_below_ahead_of_all(self):
        for way in WAYS + [MaskedWay(Way(), [(0, 0)]), MaskedWay(MaskedWay(FoldedWay(), []), [(0, 1)])]:
            for none in (0, -1, -2, -HUGE, -ENDLESS):
                for most in (9, 0, -1):
                    for stretches in ([], [(3, 4)], [(10, 0)]):
                        self.assert_refused(OutOfPicture, laid_along, most, none, 2, way, stretches)
                        self.assert_refused(OutOfPicture, laid_along, most, 2, none, way, stretches)
                        self.assert_refused(OutOfPicture, laid_along, most, none, none, way, stretches)
            self.assert_refused(OutOfPicture, laid_along, 9, -2, -2, way, [(3, 4)])

    def test_a_most_below_one_ahead_of_the_stretches(self):
        for way in WAYS + [MaskedWay(Way(), by_rows(2, 2))]:
            for most in (0, -1, -HUGE, -ENDLESS):
                for stretches in ([], [(0, 4)], [(3, 4)], [(0, 0)], [(-1, 5)], [(0, HUGE)]):
                    self.assert_refused(NoPicture, laid_along, most, 2, 2, way, stretches)


if __name__ == "__main__":
    unittest.main()
