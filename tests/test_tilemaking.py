"""[9] doubled tiles, [10] spread tiles and the nearest two cells of a level."""

import itertools
import time
import unittest

from dotscreen.errors import NoTile
from dotscreen.tilemaking import doubled_tile, nearest_two, spread_tile
from dotscreen.tiles import Tile, level_of
from tests.helpers import ENDLESS, HUGE, DotTest, by_rows, made_tile, numbered_tile

SPREAD = [(1, 1), (1, 2), (2, 1), (1, 7), (7, 1), (2, 2), (3, 3), (4, 4), (8, 8), (12, 12), (2, 3), (3, 2), (5, 8),
          (8, 5), (2, 9), (3, 50), (50, 3), (10, 15), (15, 10), (1, 150), (150, 1)]


def distance(one, other, high, wide):
    """The least of all the ways round the edges or not."""
    return min((one[0] - other[0] + down) ** 2 + (one[1] - other[1] + right) ** 2
               for down in (-high, 0, high) for right in (-wide, 0, wide))


def nearest_by_pairs(tile, level):
    high, wide = len(tile.rows), len(tile.rows[0])
    pairs = itertools.combinations(level_of(tile, level), 2)
    return min((distance(one, other, high, wide) for one, other in pairs), default=None)


def cells_by_number(tile):
    """The cells of a tile of which each number stands once, in the order of the numbers."""
    return sorted(by_rows(len(tile.rows), len(tile.rows[0])), key=lambda cell: tile.rows[cell[0]][cell[1]])


class DoubledTest(DotTest):
    def test_the_first_ones(self):
        self.assert_tile(self.ask(doubled_tile, 0), 1, [[1]])
        self.assert_tile(self.ask(doubled_tile, 1), 4, [[1, 3], [4, 2]])
        self.assert_tile(self.ask(doubled_tile, 2), 16,
                         [[1, 9, 3, 11], [13, 5, 15, 7], [4, 12, 2, 10], [16, 8, 14, 6]])

    def test_each_threshold_by_the_one_of_the_lesser_tile(self):
        for times in range(1, 8):
            tile = doubled_tile(times)
            lesser = doubled_tile(times - 1)
            side = 2 ** (times - 1)
            more = {(False, False): 0, (False, True): 2, (True, False): 3, (True, True): 1}
            due = [[4 * (lesser.rows[row % side][column % side] - 1) + 1 + more[row >= side, column >= side]
                    for column in range(2 * side)] for row in range(2 * side)]
            self.assert_tile(tile, 4 ** times, due)

    def test_each_number_once(self):
        for times in range(7):
            tile = doubled_tile(times)
            self.assert_equal(sorted(sum(tile.rows, ())), list(range(1, 4 ** times + 1)))

    def test_a_tile_of_its_own_each_time(self):
        self.assertIsNot(doubled_tile(2), doubled_tile(2))

    def test_the_levels_lie_evenly_in_each_square(self):
        for times in range(6):
            tile = doubled_tile(times)
            for power in range(times + 1):
                for top in range(0, 2 ** times, 2 ** power):
                    for left in range(0, 2 ** times, 2 ** power):
                        self.assert_even(tile, times, power, top, left)

    def assert_even(self, tile, times, power, top, left):
        side = 2 ** power
        square = sorted(sum((row[left:left + side] for row in tile.rows[top:top + side]), ()))
        whole = 4 ** (times - power)
        number = 0
        for level in range(tile.count + 1):
            while number < len(square) and square[number] <= level:
                number += 1
            most = level // whole + (1 if level % whole else 0)
            if not level // whole <= number <= most:
                self.fail(f"{number} cells of the level {level} in the square of {side} at {top}, {left}")

    def test_fewer_than_nought_times(self):
        for times in (-1, -2, -6, -HUGE, -ENDLESS):
            self.assert_refused(NoTile, doubled_tile, times)


class SpreadTest(DotTest):
    def test_the_first_ones(self):
        self.assert_tile(self.ask(spread_tile, 1, 1), 1, [[1]])
        self.assert_tile(self.ask(spread_tile, 1, 2), 2, [[1, 2]])
        self.assert_tile(self.ask(spread_tile, 2, 1), 2, [[1], [2]])
        self.assert_tile(self.ask(spread_tile, 2, 2), 4, [[1, 3], [4, 2]])
        self.assert_tile(self.ask(spread_tile, 1, 5), 5, [[1, 3, 2, 4, 5]])
        self.assert_tile(self.ask(spread_tile, 3, 3), 9, [[1, 4, 5], [6, 2, 7], [8, 9, 3]])

    def test_each_number_once(self):
        for high, wide in SPREAD:
            tile = self.ask(spread_tile, high, wide)
            self.assertIs(type(tile), Tile)
            self.assertEqual((tile.count, len(tile.rows), len(tile.rows[0])), (high * wide, high, wide))
            self.assert_equal(sorted(sum(tile.rows, ())), list(range(1, high * wide + 1)))

    def test_each_next_number_where_it_is_farthest_from_the_nearest(self):
        for high, wide in SPREAD:
            due = [(0, 0)]
            far = {cell: distance(cell, (0, 0), high, wide) for cell in by_rows(high, wide)}
            while len(due) < high * wide:
                free = [cell for cell in by_rows(high, wide) if cell not in due]
                due.append(min(free, key=lambda cell: (-far[cell], cell)))
                far = {cell: min(far[cell], distance(cell, due[-1], high, wide)) for cell in far}
            self.assert_equal(cells_by_number(spread_tile(high, wide)), due)

    def test_a_hundred_and_fifty_without_delay(self):
        for high, wide in ((1, 150), (150, 1), (10, 15), (12, 12)):
            begun = time.process_time()
            tile = spread_tile(high, wide)
            nearest_two(tile, tile.count)
            self.assertLess(time.process_time() - begun, 5)

    def test_a_tile_of_its_own_each_time(self):
        self.assertIsNot(spread_tile(2, 2), spread_tile(2, 2))

    def test_no_cell(self):
        for none in (0, -1, -2, -HUGE, -ENDLESS):
            self.assert_refused(NoTile, spread_tile, none, none)
            for other in (1, 5, HUGE, ENDLESS):
                self.assert_refused(NoTile, spread_tile, none, other)
                self.assert_refused(NoTile, spread_tile, other, none)

    def test_both_below_nought_though_they_make_up_a_number_above_it(self):
        self.assert_refused(NoTile, spread_tile, -2, -3)


class NearestTest(DotTest):
    def test_fewer_than_two(self):
        for level in (-HUGE, -1, 0, 1, 2, HUGE):
            self.assertIs(self.ask(nearest_two, Tile(2, [[1]]), level), None)
        for high, wide in ((1, 2), (2, 1), (3, 4), (64, 64)):
            tile = numbered_tile(high, wide)
            for level in (-ENDLESS, -HUGE, -1, 0, 1):
                self.assertIs(self.ask(nearest_two, tile, level), None)
            self.assertEqual(self.ask(nearest_two, tile, 2), 1)
        self.assertIs(self.ask(nearest_two, Tile(9, [[5, 7], [9, 9]]), 6), None)
        self.assertEqual(self.ask(nearest_two, Tile(9, [[5, 7], [9, 9]]), 7), 1)

    def test_two_cells_anywhere(self):
        for high, wide in ((1, 2), (2, 1), (1, 6), (1, 7), (6, 1), (7, 1), (2, 2), (3, 5), (4, 4), (5, 4)):
            for one, other in itertools.combinations(by_rows(high, wide), 2):
                tile = Tile(2, [[1 if (row, column) in (one, other) else 2 for column in range(wide)]
                                for row in range(high)])
                self.assertEqual(self.ask(nearest_two, tile, 1), distance(one, other, high, wide))

    def test_round_the_edges(self):
        rows = [[9] * 8 for row in range(6)]
        rows[1][2] = rows[5][7] = 1
        self.assertEqual(nearest_two(Tile(9, rows), 1), 4 + 9)
        self.assertEqual(nearest_two(Tile(9, [[1, 9, 9, 9, 9, 9, 9, 1]]), 8), 1)
        self.assertEqual(nearest_two(Tile(9, [[1], [9], [9], [9], [9], [1], [9]]), 8), 4)

    def test_any_tile_and_level(self):
        for high, wide in ((1, 1), (1, 9), (9, 1), (4, 5), (5, 4), (7, 7), (8, 8)):
            for tile in (made_tile(high, wide), made_tile(high, wide, 3, 2), made_tile(high, wide, 50, 9)):
                for level in list(range(-1, 52)) + [HUGE]:
                    self.assertEqual(self.ask(nearest_two, tile, level), nearest_by_pairs(tile, level))

    def test_thresholds_alike(self):
        self.assertEqual(nearest_two(Tile(9, [[4, 9, 4], [9, 9, 9], [9, 9, 9]]), 4), 1)
        self.assertEqual(nearest_two(Tile(9, [[4, 9, 4, 9]] + [[9] * 4] * 3), 4), 4)
        self.assertIs(nearest_two(Tile(9, [[4, 9, 4, 9]] + [[9] * 4] * 3), 3), None)
        self.assertEqual(nearest_two(Tile(HUGE, [[HUGE, 1], [1, HUGE]]), HUGE - 1), 2)
        self.assertEqual(nearest_two(Tile(HUGE, [[HUGE, 1], [1, HUGE]]), HUGE), 1)

    def test_doubled_tiles(self):
        for times in range(4):
            tile = doubled_tile(times)
            for level in range(-1, tile.count + 2):
                self.assertEqual(nearest_two(tile, level), nearest_by_pairs(tile, level))

    def test_a_great_tile_without_delay(self):
        begun = time.process_time()
        tile = doubled_tile(6)
        for power in range(1, 7):
            self.assertEqual(nearest_two(tile, 4 ** power), 4096 // 4 ** power)
        self.assertLess(time.process_time() - begun, 20)

    def test_of_a_spread_tile_the_distance_at_which_the_last_cell_was_numbered(self):
        for high, wide in SPREAD:
            tile = spread_tile(high, wide)
            cells = cells_by_number(tile)
            for level in range(2, tile.count + 1):
                last = min(distance(cells[level - 1], cell, high, wide) for cell in cells[:level - 1])
                self.assertEqual(nearest_two(tile, level), last)
            self.assertIs(nearest_two(tile, 1), None)


if __name__ == "__main__":
    unittest.main()
