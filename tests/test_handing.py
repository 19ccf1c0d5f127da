"""[15] handing along a way, [16] the ledger and the bound, [17] what follows."""

import random
import unittest

from dotscreen.errors import NoInks, NoShares
from dotscreen.handing import bound_of, handed, ledger
from dotscreen.pictures import Picture, shades_sum
from dotscreen.ways import ColumnWay, FoldedWay, FroWay, MaskedWay, Way
from tests.helpers import (ENDLESS, HUGE, DotTest, by_rows, drawn, half_of, inks_of, laid, made, numbered, plain,
                           reckoned, spoilt_inks, spoilt_shares, ways_through)

SHARES = [[1], [2], [HUGE], [7, 1], [0, 1], [1, 0, 0], [0, 0, 3], [3, 0, 5, 1], [7, 3, 5, 1], [1] * 20,
          list(range(20)), [0] * 19 + [1], [HUGE, 0, HUGE - 1, 1], [HUGE - place for place in range(20)]]
SIZES = [(1, 1), (1, 9), (9, 1), (2, 2), (5, 6), (7, 3)]


def some_inks(most):
    yield [0, most]
    for number in (3, 4, 7, 20):
        if most >= 999:
            yield inks_of(number, most)
    if most == 9:
        yield from [[0, 4, 9], [0, 1, 2, 9], list(range(10)), [0, 8, 9]]


class LedgerTest(DotTest):
    def test_one_share(self):
        told = self.ask(ledger, Picture(9, [[4, 4, 4, 4]]), Way(), [1], [0, 9])
        self.assertEqual(told, [((0, 0), 0, 0, 4, 0), ((0, 1), 4, 9, -1, 0), ((0, 2), -1, 0, 3, 0),
                                ((0, 3), 3, 9, -2, 0)])

    def test_two_shares_with_odd_parts(self):
        told = self.ask(ledger, Picture(10, [[5, 5, 5]]), Way(), [7, 1], [0, 10])
        self.assertEqual(told, [((0, 0), 0, 0, 5, 0), ((0, 1), 4, 10, -1, 3), ((0, 2), 0, 0, 5, 1)])

    def test_an_odd_part_where_less_than_nothing_is_handed(self):
        told = self.ask(ledger, Picture(10, [[8], [0], [1]]), ColumnWay(), [1, 2], [0, 10])
        # -2 by 1 is -1 * 3 + 1, then -1 by 1 and -2 by 2 and the 1 are -4, that is -2 * 3 + 2.
        self.assertEqual(told, [((0, 0), 0, 10, -2, 0), ((1, 0), -1, 0, -1, 1), ((2, 0), -2, 0, -1, 2)])

    def test_the_lesser_ink_at_the_middle_between_two(self):
        for inks, shade, due in (([0, 10], 5, 0), ([0, 10], 6, 10), ([0, 9], 4, 0), ([0, 9], 5, 9), ([0, 4, 10], 2, 0),
                                 ([0, 4, 10], 3, 4), ([0, 4, 10], 7, 4), ([0, 4, 10], 8, 10), ([0, 1], 0, 0)):
            told = self.ask(handed, Picture(inks[-1], [[shade]]), Way(), [1], inks)
            self.assert_picture(told, inks[-1], [[due]])

    def test_a_shade_at_an_ink_hands_on_nothing(self):
        for number in range(2, 21):
            for most in (999, HUGE):
                inks = inks_of(number, most)
                picture = Picture(most, [inks, inks[::-1]])
                for way in (Way(), FroWay(), ColumnWay(), FoldedWay()):
                    self.assert_same(self.ask(handed, picture, way, [3, 2], inks), picture)
                    self.assertEqual({row[1:2] + row[3:] for row in ledger(picture, way, [3, 2], inks)}, {(0, 0, 0)})

    def test_wants_beyond_the_last_ink_and_below_the_first(self):
        told = self.ask(ledger, Picture(10, [[5, 10, 10, 6, 0]]), Way(), [1], [0, 10])
        self.assertEqual(told, [((0, 0), 0, 0, 5, 0), ((0, 1), 5, 10, 5, 0), ((0, 2), 5, 10, 5, 0),
                                ((0, 3), 5, 10, 1, 0), ((0, 4), 1, 0, 1, 0)])
        told = self.ask(ledger, Picture(10, [[6, 0, 0]]), Way(), [1], [0, 10])
        self.assertEqual(told, [((0, 0), 0, 10, -4, 0), ((0, 1), -4, 0, -4, 0), ((0, 2), -4, 0, -4, 0)])

    def test_more_shares_than_cells(self):
        for number in (2, 3, 5, 20):
            told = self.ask(ledger, Picture(10, [[5]]), Way(), [1] * number, [0, 10])
            self.assertEqual(told, [((0, 0), 0, 0, 5, 0)])
        told = self.ask(ledger, Picture(10, [[5, 5]]), Way(), [0, 0, 9], [0, 10])
        self.assertEqual(told, [((0, 0), 0, 0, 5, 0), ((0, 1), 0, 0, 5, 0)])

    def test_each_row_by_the_told_rule(self):
        for high, wide in SIZES:
            for most in (1, 9, 999, HUGE):
                picture = drawn(high, wide, most, high + wide)
                for inks in some_inks(most):
                    for way in ways_through(high, wide):
                        for shares in SHARES[::2] if high * wide > 9 else SHARES:
                            self.assert_reckoned(picture, way, shares, inks)

    def assert_reckoned(self, picture, way, shares, inks):
        due = reckoned(picture, way, shares, inks)
        told = self.ask(ledger, picture, way, shares, inks)
        self.assert_equal(told, due)
        self.assert_picture(self.ask(handed, picture, way, shares, inks), picture.most, laid(due, picture))

    def test_two_to_twenty_inks_and_one_to_twenty_shares(self):
        draw = random.Random(5)
        for number in range(2, 21):
            for most in (1000, HUGE):
                for greatest in (3, HUGE):
                    shares = [draw.randint(0, greatest) for place in range(number - 1)] + [1]
                    picture = drawn(6, 7, most, number)
                    for way in (Way(), FroWay(), ColumnWay(), FoldedWay()):
                        self.assert_reckoned(picture, way, shares, inks_of(number, most))

    def test_sixty_four_of_one_and_of_sixty_four(self):
        for high, wide in ((64, 1), (1, 64), (64, 64)):
            for way in (Way(), FoldedWay(), MaskedWay(FroWay(), by_rows(64, 64)[::5])):
                self.assert_reckoned(drawn(high, wide, HUGE, 1), way, [7, 3, 5, 1], inks_of(5, HUGE))
        self.assert_reckoned(numbered(64, 64), ColumnWay(), list(range(20)), list(range(19)) + [4096])

    def test_all_cells_left_out(self):
        for high, wide in SIZES:
            way = MaskedWay(FoldedWay(), by_rows(high, wide))
            picture = Picture(9, [[9] * wide] * high)
            self.assertEqual(self.ask(ledger, picture, way, [1], [0, 9]), [])
            self.assert_picture(self.ask(handed, picture, way, [1], [0, 9]), 9, [[0] * wide] * high)

    def test_cells_left_out_have_paper_and_hand_nothing_on(self):
        picture = Picture(10, [[5, 9, 5], [10, 5, 9]])
        told = self.ask(handed, picture, MaskedWay(Way(), [(0, 1), (1, 0), (1, 2), (7, 7)]), [1], [0, 10])
        self.assert_picture(told, 10, [[0, 0, 10], [0, 0, 0]])

    def test_shares_and_inks_as_tuples(self):
        picture = made(4, 5)
        for way in (Way(), FoldedWay()):
            self.assert_equal(self.ask(ledger, picture, way, (3, 0, 1), (0, 4, 9)),
                              ledger(picture, way, [3, 0, 1], [0, 4, 9]))
            self.assert_same(self.ask(handed, picture, way, (3, 0, 1), (0, 4, 9)),
                             handed(picture, way, [3, 0, 1], [0, 4, 9]))

    def test_the_told_list_changed_and_asked_again(self):
        for way in (Way(), MaskedWay(FoldedWay(), [(0, 1)])):
            self.assert_told_anew(ledger, made(4, 5), way, [3, 1], [0, 4, 9])
        way = MaskedWay(Way(), [(0, 0)])
        ledger(made(1, 1), way, [1], [0, 9]).append(None)
        self.assertEqual(ledger(made(1, 1), way, [1], [0, 9]), [])

    def test_kinds(self):
        told = ledger(made(4, 5), FroWay(), [3, 1], [0, 4, 9])
        self.assertIs(type(told), list)
        for row in told:
            self.assertEqual([type(each) for each in row], [tuple, int, int, int, int])
            self.assertIs(type(row), tuple)
        self.assert_no_list_twice(told, ledger(made(4, 5), FroWay(), [3, 1], [0, 4, 9]))

    def test_what_was_handed_in_stays_and_is_not_kept(self):
        picture, way, shares, inks = made(4, 5), MaskedWay(FroWay(), [(1, 1)]), [3, 1], [0, 4, 9]
        told = handed(picture, way, shares, inks)
        due = plain(told)
        shares.clear()
        inks.append(3)
        self.assert_equal(plain(told), due)
        self.assertIsNot(told, picture)
        self.assert_same(handed(picture, way, [3, 1], [0, 4, 9]), told)

    def test_what_was_told_may_be_handed_in_again(self):
        once = handed(made(4, 5), FroWay(), [3, 1], [0, 4, 9])
        again = self.ask(handed, once, ColumnWay(), [1], [0, 4, 9])
        self.assert_same(again, once)
        self.assertIsNot(again, once)

    def test_a_picture_greater_than_the_bounds(self):
        self.assert_reckoned(drawn(66, 3, 9, 1), FoldedWay(), [1] * 30, list(range(10)))


class BoundTest(DotTest):
    def due(self, shares, inks):
        weighed = sum((place + 1) * share for place, share in enumerate(shares))
        return (half_of(inks) * weighed + sum(shares) - 1) // sum(shares)

    def test_by_hand(self):
        for shares, inks, due in (([1], [0, 9], 4), ([1], [0, 10], 5), ([7, 1], [0, 10], 6), ([0, 1], [0, 10], 10),
                                  ([0, 0, 5], [0, 4, 9], 6), ([3], [0, 1], 0), ([3, 2], [0, 1, 2, 3], 0),
                                  ([1, 1], [0, 2], 2), ([3, 1], [0, 4, 6], 3), ([4, 0], [0, 3, 4, 9], 2)):
            self.assertEqual(self.ask(bound_of, shares, inks), due)

    def test_by_the_told_sum(self):
        for shares in SHARES:
            for most in (1000, 1001, HUGE):
                for number in range(2, 21):
                    inks = inks_of(number, most)
                    self.assertEqual(self.ask(bound_of, shares, inks), self.due(shares, inks))
                    self.assertEqual(self.ask(bound_of, tuple(shares), tuple(inks)), self.due(shares, inks))

    def test_odd_and_even_differences_anywhere(self):
        for inks in ([0, 7, 8], [0, 1, 8], [0, 3, 10, 12], [0, 2, 4, 10], [0, 6, 8, 10], [0, 1, 2], [0, 5, 10, 15]):
            for shares in SHARES:
                self.assertEqual(self.ask(bound_of, shares, inks), self.due(shares, inks))

    def test_inks_that_end_anywhere(self):
        for last in (1, 2, 9, 10, HUGE, HUGE - 1, 10 ** 40):
            self.assertEqual(self.ask(bound_of, [1], [0, last]), last // 2)

    def test_the_wrong_shares(self):
        for shares in spoilt_shares():
            for inks in ([0, 9], [0, 4, 9], [], [0], [1, 9], [0, 4, 4], [5, 3]):
                self.assert_refused(NoShares, bound_of, shares, inks)
                self.assert_refused(NoShares, bound_of, tuple(shares), tuple(inks))

    def test_the_wrong_inks(self):
        for inks in ([], [0], [9], [1, 9], [-1, 9], [0, 0], [0, 0, 9], [0, 9, 9], [0, 4, 4, 9], [0, 5, 4, 9], [9, 0],
                     [0, -1], [0, 4, 3], [0, -HUGE, 9], [HUGE, ENDLESS], [-9, 0, 9]):
            self.assert_refused(NoInks, bound_of, [3, 1], inks)
            self.assert_refused(NoInks, bound_of, (3, 1), tuple(inks))
        for inks, most in spoilt_inks():
            rises = len(inks) > 1 and inks[0] == 0 and all(one < other for one, other in zip(inks, inks[1:]))
            if rises:
                self.assertEqual(self.ask(bound_of, [2], inks), half_of(inks))
            else:
                self.assert_refused(NoInks, bound_of, [2], inks)


class RefusedTest(DotTest):
    def test_the_wrong_shares(self):
        picture = made(2, 3)
        for shares in spoilt_shares():
            for function in (handed, ledger):
                for inks in ([0, 9], [0, 4, 9], [], [0], [1, 9], [0, 8], [0, 4, 4, 9], [0, 5, 4, 9]):
                    self.assert_refused(NoShares, function, picture, Way(), shares, inks)
                self.assert_refused(NoShares, function, picture, FoldedWay(), tuple(shares), (0, 9))

    def test_the_wrong_inks(self):
        for inks, most in spoilt_inks():
            picture = Picture(most, [[0, 1], [most, 4]])
            for function in (handed, ledger):
                self.assert_refused(NoInks, function, picture, FroWay(), [1], inks)
                self.assert_refused(NoInks, function, picture, FroWay(), (7, 0, 1), tuple(inks))

    def test_where_no_cell_is_gone_through(self):
        way = MaskedWay(Way(), by_rows(2, 3))
        for function in (handed, ledger):
            self.assert_refused(NoShares, function, made(2, 3), way, [], [0, 9])
            self.assert_refused(NoInks, function, made(2, 3), way, [1], [0, 8])


class FollowsTest(DotTest):
    def assert_bounded(self, picture, way, shares, inks):
        half, bound = half_of(inks), bound_of(shares, inks)
        shades, dots = 0, 0
        self.assertLessEqual(0, bound)
        for cell, got, ink, left, odd in self.ask(ledger, picture, way, shares, inks):
            self.assertTrue(-half <= left <= half)
            shades += picture.rows[cell[0]][cell[1]]
            dots += ink
            self.assertTrue(abs(shades - dots) <= bound)

    def test_what_is_left_and_the_sums_of_each_beginning(self):
        for high, wide in SIZES:
            for most in (1, 9, 10, HUGE):
                for seed in range(3):
                    picture = drawn(high, wide, most, seed)
                    for inks in some_inks(most):
                        for way in ways_through(high, wide):
                            for shares in SHARES[seed::3]:
                                self.assert_bounded(picture, way, shares, inks)

    def test_pictures_that_bring_it_near_the_bound(self):
        reached = 0
        for most in (9, 10):
            for shade in range(most + 1):
                for shares in SHARES:
                    picture = Picture(most, [[shade] * 40])
                    self.assert_bounded(picture, Way(), shares, [0, most])
                    differ = abs(shades_sum(picture) - shades_sum(handed(picture, Way(), shares, [0, most])))
                    reached += differ == bound_of(shares, [0, most])
        self.assertGreater(reached, 5)

    def test_a_great_picture(self):
        self.assert_bounded(drawn(64, 64, HUGE, 3), FoldedWay(), [7, 3, 5, 1], [0, HUGE])


if __name__ == "__main__":
    unittest.main()
