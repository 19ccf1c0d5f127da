"""[7] tiles and their thresholds, and what is refused as none; [8] the levels of a tile."""

import unittest

from dotscreen.errors import NoTile
from dotscreen.tiles import Tile, level_of, threshold_at
from tests.helpers import ENDLESS, HUGE, DotTest, by_rows, made_tile, numbered_tile

SHAPES = [(1, 1), (1, 5), (5, 1), (2, 3), (3, 2), (4, 4), (64, 1), (1, 64), (64, 64)]


class FieldsTest(DotTest):
    def test_count_and_rows(self):
        self.assert_tile(self.ask(Tile, 6, [[1, 6, 2], [3, 5, 4]]), 6, [[1, 6, 2], [3, 5, 4]])

    def test_any_size(self):
        for high, wide in SHAPES:
            for count in (1, 2, HUGE):
                rows = [[(3 * row + column) % min(count, 7) + 1 for column in range(wide)] for row in range(high)]
                self.assert_tile(self.ask(Tile, count, rows), count, rows)

    def test_lists_and_tuples(self):
        for rows in ([[2, 1], [1, 2]], [(2, 1), (1, 2)], ([2, 1], [1, 2]), ((2, 1), (1, 2)), [[2, 1], (1, 2)]):
            with self.subTest(rows=rows):
                self.assert_tile(self.ask(Tile, 2, rows), 2, [[2, 1], [1, 2]])

    def test_a_later_change_of_the_lists_does_not_reach_it(self):
        rows = [[1, 2], [3, 4]]
        tile = Tile(4, rows)
        rows[0][0] = 4
        rows[1].append(1)
        rows.append([1, 1])
        self.assert_tile(tile, 4, [[1, 2], [3, 4]])
        self.assertEqual(threshold_at(tile, 2, 2), 1)
        self.assertEqual(level_of(tile, 4), by_rows(2, 2))

    def test_one_list_handed_in_as_two_rows(self):
        row = [1, 2]
        tile = Tile(2, [row, row])
        row[0] = 2
        self.assert_tile(tile, 2, [[1, 2], [1, 2]])

    def test_rows_told_may_be_handed_in_again(self):
        tile = made_tile(3, 4)
        self.assert_tile(self.ask(Tile, tile.count, tile.rows), tile.count, tile.rows)

    def test_least_and_greatest_thresholds_at_every_place(self):
        for count in (1, 2, HUGE):
            for place in range(9):
                rows = [[count] * 3 for row in range(3)]
                rows[place // 3][place % 3] = 1
                self.assert_tile(self.ask(Tile, count, rows), count, rows)

    def test_the_count_may_be_any_number_that_no_threshold_is_above(self):
        self.assert_tile(self.ask(Tile, 1, [[1] * 64] * 64), 1, [[1] * 64] * 64)
        self.assert_tile(self.ask(Tile, HUGE, [[1]]), HUGE, [[1]])
        self.assert_tile(self.ask(Tile, ENDLESS, [[ENDLESS, 1]]), ENDLESS, [[ENDLESS, 1]])


class RefusedTileTest(DotTest):
    def test_count_below_one(self):
        for count in (0, -1, -2, -HUGE, -ENDLESS):
            for threshold in (1, 0, -1, count):
                self.assert_refused(NoTile, Tile, count, [[threshold]])
                self.assert_refused(NoTile, Tile, count, [[threshold, threshold], [threshold, threshold]])

    def test_no_rows_and_no_thresholds(self):
        for rows in ([], (), [[]], ((),), [[], []], [(), []], [[]] * 64):
            with self.subTest(rows=rows):
                self.assert_refused(NoTile, Tile, 1, rows)
                self.assert_refused(NoTile, Tile, 0, rows)

    def test_a_row_of_another_length_at_any_place(self):
        for number in (2, 3, 5):
            for place in range(number):
                for length in (0, 1, 3, 4):
                    rows = [[1, 2] for row in range(number)]
                    rows[place] = [1] * length
                    with self.subTest(rows=rows):
                        self.assert_refused(NoTile, Tile, 2, rows)

    def test_a_wrong_threshold_at_any_place(self):
        for count, wrong in ((1, (0, -1, 2)), (9, (0, -1, 10, HUGE, -HUGE)), (HUGE, (0, -HUGE, HUGE + 1, ENDLESS))):
            for threshold in wrong:
                for place in range(12):
                    rows = [[1] * 4 for row in range(3)]
                    rows[place // 4][place % 4] = threshold
                    self.assert_refused(NoTile, Tile, count, rows)

    def test_a_wrong_threshold_in_the_one_cell(self):
        for threshold in (-1, 0, 3):
            self.assert_refused(NoTile, Tile, 2, [[threshold]])

    def test_a_refusal_leaves_the_lists_usable(self):
        rows = [[1, 2], [3, 1]]
        self.assert_refused(NoTile, Tile, 2, rows)
        self.assert_tile(Tile(3, rows), 3, [[1, 2], [3, 1]])


class ThresholdTest(DotTest):
    def test_each_cell(self):
        for high, wide in SHAPES:
            tile = numbered_tile(high, wide)
            told = [threshold_at(tile, row, column) for row, column in by_rows(high, wide)]
            self.assert_equal(told, list(range(1, high * wide + 1)))

    def test_rows_and_columns_of_any_sign(self):
        for high, wide in SHAPES[:6]:
            tile = numbered_tile(high, wide)
            for row in range(-3 * high, 3 * high + 1):
                for column in range(-3 * wide, 3 * wide + 1):
                    due = (row % high) * wide + column % wide + 1
                    self.assertEqual(self.ask(threshold_at, tile, row, column), due)

    def test_just_beyond_and_just_below(self):
        tile = Tile(6, [[1, 2, 3], [4, 5, 6]])
        self.assertEqual(threshold_at(tile, 2, 3), 1)
        self.assertEqual(threshold_at(tile, -1, -1), 6)
        self.assertEqual(threshold_at(tile, 1, -1), 6)
        self.assertEqual(threshold_at(tile, -1, 1), 5)
        self.assertEqual(threshold_at(tile, -2, -3), 1)
        self.assertEqual(threshold_at(tile, 3, 5), 6)

    def test_thirty_figures(self):
        for high, wide in SHAPES:
            tile = numbered_tile(high, wide)
            for row in (HUGE, -HUGE, HUGE - 1, 1 - HUGE, 0):
                for column in (HUGE, -HUGE, HUGE - 1, 1 - HUGE, 1):
                    due = (row % high) * wide + column % wide + 1
                    self.assertEqual(self.ask(threshold_at, tile, row, column), due)

    def test_a_threshold_of_thirty_figures(self):
        self.assertEqual(threshold_at(Tile(HUGE, [[HUGE]]), -5, 5), HUGE)


class LevelTest(DotTest):
    def test_each_level(self):
        tile = Tile(4, [[4, 1], [2, 3]])
        self.assertEqual(self.ask(level_of, tile, 0), [])
        self.assertEqual(self.ask(level_of, tile, 1), [(0, 1)])
        self.assertEqual(self.ask(level_of, tile, 2), [(0, 1), (1, 0)])
        self.assertEqual(self.ask(level_of, tile, 3), [(0, 1), (1, 0), (1, 1)])
        self.assertEqual(self.ask(level_of, tile, 4), [(0, 0), (0, 1), (1, 0), (1, 1)])

    def test_any_tile_by_rows_and_columns(self):
        for high, wide in SHAPES:
            for tile in (made_tile(high, wide), made_tile(high, wide, 3, 1), numbered_tile(high, wide)):
                for level in list(range(-1, 14)) + [tile.count - 1, tile.count, tile.count + 1]:
                    due = [(row, column) for row, column in by_rows(high, wide) if tile.rows[row][column] <= level]
                    self.assert_equal(self.ask(level_of, tile, level), due)

    def test_none_below_one_and_all_from_the_count_on(self):
        for high, wide in SHAPES:
            tile = made_tile(high, wide)
            for level in (0, -1, -HUGE, -ENDLESS):
                self.assertEqual(self.ask(level_of, tile, level), [])
            for level in (12, 13, HUGE, ENDLESS):
                self.assert_equal(self.ask(level_of, tile, level), by_rows(high, wide))

    def test_a_count_above_all_thresholds(self):
        tile = Tile(HUGE, [[5, HUGE - 1], [1, HUGE]])
        self.assertEqual(level_of(tile, 4), [(1, 0)])
        self.assertEqual(level_of(tile, HUGE - 2), [(0, 0), (1, 0)])
        self.assertEqual(level_of(tile, HUGE - 1), [(0, 0), (0, 1), (1, 0)])
        self.assertEqual(level_of(tile, HUGE), by_rows(2, 2))

    def test_thresholds_that_are_alike(self):
        tile = Tile(9, [[3, 7, 3], [7, 3, 7]])
        self.assertEqual(level_of(tile, 2), [])
        self.assertEqual(level_of(tile, 3), [(0, 0), (0, 2), (1, 1)])
        self.assertEqual(level_of(tile, 6), [(0, 0), (0, 2), (1, 1)])
        self.assertEqual(level_of(tile, 7), by_rows(2, 3))

    def test_the_cells_of_a_level_are_among_those_of_each_greater_one(self):
        tile = made_tile(6, 7, 20)
        for level in range(-1, 22):
            self.assertLessEqual(set(level_of(tile, level)), set(level_of(tile, level + 1)))

    def test_the_list_is_new_each_time(self):
        for level in (1, 5, 12, HUGE):
            self.assert_told_anew(level_of, made_tile(4, 5), level)
        tile = made_tile(2, 2)
        level_of(tile, 0).append((0, 0))
        self.assertEqual(level_of(tile, 0), [])


if __name__ == "__main__":
    unittest.main()
