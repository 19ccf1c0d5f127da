"""[13] ways through a picture, their words, masked ways; [14] the folded curve and the way along it."""

import unittest

from dotscreen import ways
from dotscreen.errors import NoWay, OutOfPicture
from dotscreen.ways import ColumnWay, FoldedWay, FroWay, MaskedWay, Way, folded_cells, way_by
from tests.helpers import ENDLESS, HUGE, DotTest, by_rows, plain

SIZES = [(1, 1), (1, 2), (2, 1), (1, 7), (7, 1), (2, 2), (3, 5), (5, 3), (4, 4), (8, 6), (64, 1), (1, 64), (64, 64)]
PLAIN = [Way, FroWay, ColumnWay, FoldedWay]
NONE = [0, -1, -2, -64, -HUGE, -ENDLESS]
MASK = [(0, 0), (2, 1), (0, 0), (-1, 0), (0, -1), (1, 64), (HUGE, -HUGE), (ENDLESS, 0), (1, 2)]


def curve(side):
    """As the document tells it."""
    if side == 1:
        return [(0, 0)]
    m = side // 2
    lesser = curve(m)
    return ([(c, r) for r, c in lesser] + [(m + r, c) for r, c in lesser] + [(m + r, m + c) for r, c in lesser]
            + [(m - 1 - c, 2 * m - 1 - r) for r, c in lesser])


def folded(high, wide):
    side = min(2 ** power for power in range(10) if 2 ** power >= max(high, wide))
    return [cell for cell in curve(side) if cell[0] < high and cell[1] < wide]


def fro(high, wide):
    return sorted(by_rows(high, wide), key=lambda cell: (cell[0], -cell[1] if cell[0] % 2 else cell[1]))


def columns(high, wide):
    return sorted(by_rows(high, wide), key=lambda cell: (cell[1], cell[0]))


class OrdersTest(DotTest):
    def test_row_by_row(self):
        self.assertEqual(self.ask(Way().order, 2, 3), [(0, 0), (0, 1), (0, 2), (1, 0), (1, 1), (1, 2)])

    def test_to_and_fro(self):
        self.assertEqual(self.ask(FroWay().order, 3, 2), [(0, 0), (0, 1), (1, 1), (1, 0), (2, 0), (2, 1)])

    def test_column_by_column(self):
        self.assertEqual(self.ask(ColumnWay().order, 2, 3), [(0, 0), (1, 0), (0, 1), (1, 1), (0, 2), (1, 2)])

    def test_folded(self):
        self.assertEqual(self.ask(FoldedWay().order, 2, 2), [(0, 0), (1, 0), (1, 1), (0, 1)])
        self.assertEqual(self.ask(FoldedWay().order, 2, 3), [(0, 0), (0, 1), (1, 1), (1, 0), (1, 2), (0, 2)])

    def test_one_object_asked_for_any_size(self):
        for way, due in ((Way(), by_rows), (FroWay(), fro), (ColumnWay(), columns), (FoldedWay(), folded)):
            for size in SIZES + SIZES[::-1]:
                with self.subTest(way=type(way), size=size):
                    self.assert_equal(self.ask(way.order, *size), due(*size))

    def test_each_cell_once(self):
        for kind in PLAIN:
            for size in SIZES:
                told = kind().order(*size)
                self.assertIs(type(told), list)
                self.assert_equal(sorted(told), by_rows(*size))
                self.assertEqual({type(cell) for cell in told}, {tuple})

    def test_no_cell(self):
        for kind in PLAIN:
            for way in (kind(), MaskedWay(kind(), []), MaskedWay(kind(), MASK), MaskedWay(MaskedWay(kind(), ()), MASK)):
                for none in NONE:
                    self.assert_refused(OutOfPicture, way.order, none, none)
                    for other in (1, 5, HUGE, ENDLESS):
                        self.assert_refused(OutOfPicture, way.order, none, other)
                        self.assert_refused(OutOfPicture, way.order, other, none)
                self.assertLessEqual(len(way.order(2, 3)), 6)

    def test_told_orders_changed_and_asked_again(self):
        for kind in PLAIN:
            for way in (kind(), MaskedWay(kind(), []), MaskedWay(kind(), MASK)):
                for size in ((1, 2), (3, 5), (4, 4)):
                    self.assert_told_anew(way.order, *size)
            way = kind()
            way.order(1, 1).append((0, 1))
            self.assertEqual(way.order(1, 1), [(0, 0)])
            self.assertEqual(kind().order(1, 1), [(0, 0)])


class WordsTest(DotTest):
    def test_the_words(self):
        self.assertEqual([self.ask(kind().word) for kind in PLAIN], ["rows", "fro", "columns", "folded"])

    def test_of_masked_ways(self):
        for kind in PLAIN:
            once = MaskedWay(kind(), MASK)
            self.assertEqual(self.ask(once.word), "masked " + kind().word())
            self.assertEqual(MaskedWay(once, []).word(), "masked masked " + kind().word())
            self.assertEqual(MaskedWay(MaskedWay(once, []), [(0, 0)]).word(), "masked masked masked " + kind().word())

    def test_way_by(self):
        for kind, word in zip(PLAIN, ("rows", "fro", "columns", "folded")):
            way = self.ask(way_by, word)
            self.assertIs(type(way), kind)
            self.assertEqual(way.word(), word)
            self.assert_equal(way.order(5, 6), kind().order(5, 6))
            self.assertIsNot(way_by(word), way)

    def test_no_way(self):
        for word in ("", " ", "rows ", " rows", "Rows", "ROWS", "row", "rowss", "fro ", "Fro", "froway", "column",
                     "columns\n", "Columns", "fold", "Folded", "fol ded", "masked", "masked rows", "masked fro",
                     "masked columns", "masked folded", "masked masked rows", "masked ", "rows fro",
                     "rowsfro", "a" * 50000):
            self.assert_refused(NoWay, way_by, word)

    def test_each_class_stands_under_way(self):
        for name in ("FroWay", "ColumnWay", "FoldedWay", "MaskedWay"):
            self.assertTrue(issubclass(getattr(ways, name), Way))
        for kind in PLAIN:
            self.assertIsInstance(kind(), Way)
            self.assertIsInstance(MaskedWay(kind(), []), Way)
        for kind in PLAIN[1:]:
            self.assertNotIsInstance(Way(), kind)


class MaskedTest(DotTest):
    def masked(self, way, mask, size):
        return [cell for cell in way.order(*size) if cell not in mask]

    def test_any_way_and_mask(self):
        for kind in PLAIN:
            for size in SIZES:
                for mask in ([], (), MASK, tuple(MASK), [(0, 0)], by_rows(2, 2), [size], [(size[0] - 1, size[1] - 1)]):
                    told = self.ask(MaskedWay(kind(), mask).order, *size)
                    self.assert_equal(told, self.masked(kind(), mask, size))

    def test_every_cell_alone(self):
        for kind in PLAIN:
            for cell in by_rows(3, 4):
                told = MaskedWay(kind(), [cell]).order(3, 4)
                self.assertNotIn(cell, told)
                self.assert_equal(told, self.masked(kind(), [cell], (3, 4)))

    def test_all_cells(self):
        for kind in PLAIN:
            for size in SIZES:
                self.assertEqual(self.ask(MaskedWay(kind(), by_rows(*size)).order, *size), [])
            self.assertEqual(MaskedWay(kind(), by_rows(3, 4)).order(3, 5), self.masked(kind(), by_rows(3, 4), (3, 5)))

    def test_a_cell_twice(self):
        for kind in PLAIN:
            told = self.ask(MaskedWay, kind(), [(0, 1), (0, 1), (0, 1)])
            self.assert_equal(told.order(2, 3), self.masked(kind(), [(0, 1)], (2, 3)))

    def test_cells_that_are_none_of_the_pictures(self):
        outside = [(-1, -1), (-1, 0), (0, -1), (2, 0), (0, 3), (2, 3), (HUGE, 0), (0, HUGE), (-HUGE, -HUGE),
                   (ENDLESS, 1)]
        for kind in PLAIN:
            way = self.ask(MaskedWay, kind(), outside)
            self.assert_equal(self.ask(way.order, 2, 3), kind().order(2, 3))
            self.assert_equal(self.ask(way.order, 3, 4), self.masked(kind(), outside, (3, 4)))

    def test_of_a_masked_one(self):
        for kind in PLAIN:
            inner = MaskedWay(kind(), [(0, 0), (1, 1)])
            outer = self.ask(MaskedWay, inner, ((1, 1), (2, 0), (9, 9)))
            for size in SIZES:
                self.assert_equal(outer.order(*size), self.masked(kind(), [(0, 0), (1, 1), (2, 0), (9, 9)], size))
                self.assert_equal(inner.order(*size), self.masked(kind(), [(0, 0), (1, 1)], size))

    def test_masked_very_often(self):
        way = ColumnWay()
        for number in range(3000):
            way = MaskedWay(way, [(0, number)])
        self.assertEqual(way.order(1, 3002), [(0, 3000), (0, 3001)])
        self.assertTrue(way.word() == "masked " * 3000 + "columns")

    def test_a_later_change_of_the_mask_does_not_reach_it(self):
        mask = [(0, 0), (0, 1)]
        way = MaskedWay(Way(), mask)
        mask.pop()
        mask[0] = (1, 1)
        mask.append((1, 0))
        self.assertEqual(way.order(2, 2), [(1, 0), (1, 1)])

    def test_an_empty_mask_filled_later(self):
        mask = []
        way = MaskedWay(Way(), mask)
        mask.append((0, 0))
        self.assertEqual(way.order(1, 2), [(0, 0), (0, 1)])

    def test_the_way_and_one_mask_handed_in_twice(self):
        way, mask = FroWay(), [(0, 0)]
        ahead = plain([way, mask])
        one, other = MaskedWay(way, mask), MaskedWay(way, mask)
        both = MaskedWay(MaskedWay(one, mask), mask)
        for each in (one, other, both):
            self.assertEqual(each.order(2, 2), [(0, 1), (1, 1), (1, 0)])
        self.assertEqual(way.order(2, 2), [(0, 0), (0, 1), (1, 1), (1, 0)])
        self.assertEqual(plain([way, mask]), ahead)


class CurveTest(DotTest):
    def test_the_first_ones(self):
        self.assertEqual(self.ask(folded_cells, 1), [(0, 0)])
        self.assertEqual(self.ask(folded_cells, 2), [(0, 0), (1, 0), (1, 1), (0, 1)])
        self.assertEqual(self.ask(folded_cells, 4), [
            (0, 0), (0, 1), (1, 1), (1, 0), (2, 0), (3, 0), (3, 1), (2, 1),
            (2, 2), (3, 2), (3, 3), (2, 3), (1, 3), (1, 2), (0, 2), (0, 3)])

    def test_each_side(self):
        for side in (1, 2, 4, 8, 16, 32, 64, 128):
            cells = self.ask(folded_cells, side)
            self.assertIs(type(cells), list)
            self.assert_equal(sorted(cells), by_rows(side, side))
            self.assertEqual((cells[0], cells[-1]), ((0, 0), (0, side - 1)))
            for one, other in zip(cells, cells[1:]):
                self.assertEqual(abs(one[0] - other[0]) + abs(one[1] - other[1]), 1)

    def test_the_four_squares_by_the_lesser_curve(self):
        for side in (2, 4, 8, 16, 32, 64):
            self.assert_equal(folded_cells(side), curve(side))

    def test_told_lists_changed_and_asked_again(self):
        for side in (2, 4, 8):
            self.assert_told_anew(folded_cells, side)
        folded_cells(1).append((5, 5))
        self.assertEqual(folded_cells(1), [(0, 0)])
        self.assertEqual(folded_cells(2), curve(2))

    def test_the_folded_way_for_any_size(self):
        curves = {2 ** power: curve(2 ** power) for power in range(7)}
        way = FoldedWay()
        for high in range(1, 65):
            for wide in list(range(1, 10)) + [15, 16, 17, 31, 32, 33, 63, 64] + [high]:
                side = min(side for side in curves if side >= max(high, wide))
                due = [cell for cell in curves[side] if cell[0] < high and cell[1] < wide]
                self.assert_equal(way.order(high, wide), due)
                due = [cell for cell in curves[side] if cell[0] < wide and cell[1] < high]
                self.assert_equal(way.order(wide, high), due)


if __name__ == "__main__":
    unittest.main()
