"""[18] handing on to cells around."""

import random
import unittest

from dotscreen.around import spread_on
from dotscreen.errors import NoInks, NoShares
from dotscreen.handing import handed
from dotscreen.pictures import Picture, shades_sum
from dotscreen.ways import Way
from tests.helpers import (ENDLESS, HUGE, DotTest, by_rows, drawn, half_of, inks_of, made, nearest, numbered,
                           plain, spoilt_inks)

KNOWN = [(0, 1, 7), (1, -1, 3), (1, 0, 5), (1, 1, 1)]
AROUND = [[(0, 1, 1)], [(1, 0, 1)], [(1, -1, 2)], [(1, 1, 3)], [(2, -3, 1), (0, 2, 1)], KNOWN, KNOWN[::-1],
          KNOWN + KNOWN, [(0, 1, 1), (0, 1, 1)], [(0, 1, 0), (1, 0, 4)], [(0, 1, 3), (2, 5, 0), (0, 1, 3), (1, -1, 0)],
          [(HUGE, 0, 1)], [(0, HUGE, 5), (1, -HUGE, 2)], [(HUGE, -HUGE, HUGE), (0, 1, HUGE - 1)], [(1, HUGE, 1)],
          [(0, 64, 1), (64, 0, 1), (63, -63, 1)], [(ENDLESS, -ENDLESS, 1), (0, 1, 2)],
          [(place % 3, place % 7 - (3 if place % 3 else -1), place * place % 5) for place in range(20)],
          [(0, place + 1, HUGE - place) for place in range(20)]]


def reckoned_around(picture, around, inks):
    """As the document tells it: the inks by their cells, what is left by its cells, the last odd part."""
    whole = sum(share for down, right, share in around)
    dots, lefts, odd = {}, {}, 0
    for row, column in by_rows(len(picture.rows), len(picture.rows[0])):
        due = odd
        for down, right, share in around:
            if row - down >= 0 and 0 <= column - right < len(picture.rows[0]):
                due += share * lefts[row - down, column - right]
        want = picture.rows[row][column] + due // whole
        odd = due % whole
        dots[row, column] = nearest(want, inks)
        lefts[row, column] = want - dots[row, column]
    return dots, lefts, odd


def spoilt_around():
    """Tuples that are wrong in one way each."""
    yield []
    wrong = [(-1, 0, 1), (-1, 5, 1), (-1, -5, 1), (-HUGE, 1, 1), (0, 0, 1), (0, -1, 1), (0, -HUGE, 1), (0, 0, 0),
             (-1, 1, 0), (0, -1, 0), (0, 1, -1), (1, -1, -1), (1, 0, -HUGE), (2, 2, -ENDLESS)]
    for each in wrong:
        yield [each]
        for place in range(len(KNOWN) + 1):
            yield KNOWN[:place] + [each] + KNOWN[place:]
    yield [(0, 1, 0)]
    yield [(down, right, 0) for down, right, share in KNOWN]
    yield [(0, 1, HUGE), (1, 0, -1)]
    yield [(0, 1, -1), (1, 0, -1)]


class SpreadOnTest(DotTest):
    def test_to_the_right(self):
        told = self.ask(spread_on, Picture(9, [[4, 4, 4, 4]]), [(0, 1, 1)], [0, 9])
        self.assertIs(type(told), tuple)
        self.assert_picture(told[0], 9, [[0, 9, 0, 9]])
        self.assertEqual(told[1], 0)

    def test_down_and_to_both_sides(self):
        # 5 is left at (0, 0): 3 times 5 to the right, 2 times 5 to (1, 0). At (0, 1) 15 are 3 * 5 + 0: 8, so -2.
        # At (0, 2) -6 are -2 * 5 + 4: 3, and 3 is left. At (1, 0) 10 + 4 are 2 * 5 + 4: 7, so -3.
        # At (1, 1) -9 - 4 + 4 are -2 * 5 + 1: 3, and 3 is left. At (1, 2) 9 + 6 + 1 are 3 * 5 + 1: 8.
        told = self.ask(spread_on, Picture(10, [[5, 5, 5], [5, 5, 5]]), [(0, 1, 3), (1, 0, 2)], [0, 10])
        self.assert_picture(told[0], 10, [[0, 10, 0], [10, 0, 10]])
        self.assertEqual(told[1], 1)

    def test_down_to_the_left(self):
        told = self.ask(spread_on, Picture(10, [[0, 5], [5, 1]]), [(1, -1, 1)], [0, 10])
        self.assert_picture(told[0], 10, [[0, 0], [10, 0]])
        self.assertEqual(told[1], 0)

    def test_down_to_the_right(self):
        told = self.ask(spread_on, Picture(10, [[5, 0], [1, 5]]), [(1, 1, 1)], [0, 10])
        self.assert_picture(told[0], 10, [[0, 0], [0, 10]])

    def test_the_odd_part_goes_on_to_the_next_row(self):
        # 4 is left at (0, 0) and 2 of 3 go down to (1, 0): 8 are 2 * 3 + 2, and the 2 go on.
        told = self.ask(spread_on, Picture(9, [[4], [0]]), [(1, 0, 2), (1, 1, 1)], [0, 9])
        self.assert_picture(told[0], 9, [[0], [0]])
        self.assertEqual(told[1], 2)
        told = self.ask(spread_on, Picture(9, [[4], [0], [0]]), [(1, 0, 2), (1, 1, 1)], [0, 9])
        self.assertEqual(told[1], 0)

    def test_one_tuple_twice_counts_twice(self):
        picture = made(5, 6)
        one = spread_on(picture, [(0, 1, 2), (1, 0, 1)], [0, 9])
        two = self.ask(spread_on, picture, [(0, 1, 1), (1, 0, 1), (0, 1, 1)], [0, 9])
        self.assert_equal(plain(one), plain(two))

    def test_by_the_told_rule(self):
        for high, wide in ((1, 1), (1, 9), (9, 1), (2, 2), (5, 6), (7, 3)):
            for most in (1, 9, 1000, HUGE):
                picture = drawn(high, wide, most, high + wide)
                for around in AROUND:
                    for inks in [[0, most]] + ([inks_of(number, most) for number in (3, 5, 20)] if most > 9 else []):
                        self.assert_reckoned(picture, around, inks)

    def assert_reckoned(self, picture, around, inks):
        high, wide = len(picture.rows), len(picture.rows[0])
        dots, lefts, odd = reckoned_around(picture, around, inks)
        told = self.ask(spread_on, picture, around, inks)
        self.assert_picture(told[0], picture.most, [[dots[row, column] for column in range(wide)]
                                                    for row in range(high)])
        self.assertTrue(told[1] == odd)
        self.assertTrue(all(abs(left) <= half_of(inks) for left in lefts.values()))
        lost = sum(share * left for (row, column), left in lefts.items() for down, right, share in around
                   if (row + down, column + right) not in lefts)
        whole = sum(share for down, right, share in around)
        self.assertTrue(whole * (shades_sum(picture) - shades_sum(told[0])) == told[1] + lost)

    def test_two_to_twenty_inks_and_one_to_twenty_tuples(self):
        draw = random.Random(7)
        for number in range(2, 21):
            for most in (1000, HUGE):
                around = [(draw.randint(1, 3), draw.randint(-4, 4), draw.choice([0, 1, 2, HUGE]))
                          for place in range(number - 1)] + [(0, draw.randint(1, 3), 1)]
                self.assert_reckoned(drawn(6, 7, most, number), around, inks_of(number, most))

    def test_sixty_four(self):
        for high, wide in ((64, 1), (1, 64), (64, 64)):
            self.assert_reckoned(drawn(high, wide, HUGE, 1), KNOWN, inks_of(5, HUGE))
        self.assert_reckoned(numbered(64, 64), AROUND[-2], list(range(19)) + [4096])

    def test_shades_at_inks_and_at_the_middle(self):
        for inks, shade, due in (([0, 10], 5, 0), ([0, 10], 6, 10), ([0, 4, 10], 2, 0), ([0, 4, 10], 7, 4)):
            self.assert_picture(spread_on(Picture(inks[-1], [[shade]]), KNOWN, inks)[0], inks[-1], [[due]])
        picture = Picture(HUGE, [inks_of(20, HUGE)] * 3)
        told = spread_on(picture, KNOWN, inks_of(20, HUGE))
        self.assert_same(told[0], picture)
        self.assertEqual(told[1], 0)

    def test_to_the_right_alone_is_handing_along_a_row(self):
        picture = drawn(1, 30, 99, 4)
        told = self.ask(spread_on, picture, [(0, 1, 3), (0, 2, 2), (0, 4, 1)], [0, 40, 99])
        self.assert_same(told[0], handed(picture, Way(), [3, 2, 0, 1], [0, 40, 99]))

    def test_around_and_inks_as_tuples(self):
        told = self.ask(spread_on, made(5, 6), tuple(KNOWN), (0, 4, 9))
        self.assert_equal(plain(told), plain(spread_on(made(5, 6), KNOWN, [0, 4, 9])))

    def test_what_was_handed_in_stays_and_is_not_kept(self):
        picture, around, inks = made(5, 6), list(KNOWN), [0, 4, 9]
        told = self.ask(spread_on, picture, around, inks)
        due = plain(told)
        around.clear()
        inks.clear()
        self.assert_equal(plain(told), due)
        self.assert_equal(plain(spread_on(picture, KNOWN, [0, 4, 9])), due)
        self.assert_no_list_twice(told)
        self.assertIsNot(told[0], picture)
        self.assertIsNot(spread_on(told[0], KNOWN, [0, 4, 9])[0], told[0])


class RefusedTest(DotTest):
    def test_the_wrong_tuples(self):
        for around in spoilt_around():
            for inks in ([0, 9], [0, 4, 9], [], [0], [1, 9], [0, 8], [0, 4, 4, 9], [0, 5, 4, 9]):
                self.assert_refused(NoShares, spread_on, made(2, 3), around, inks)
                self.assert_refused(NoShares, spread_on, made(2, 3), tuple(around), tuple(inks))

    def test_the_wrong_inks(self):
        for inks, most in spoilt_inks():
            picture = Picture(most, [[0, 1], [most, 4]])
            self.assert_refused(NoInks, spread_on, picture, KNOWN, inks)
            self.assert_refused(NoInks, spread_on, picture, tuple(KNOWN), tuple(inks))


if __name__ == "__main__":
    unittest.main()
