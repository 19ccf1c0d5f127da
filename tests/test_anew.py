"""[19] a setting and its changes, [20] setting anew tells what setting all anew would tell."""

import random
import time
import unittest

from dotscreen.anew import Setting
from dotscreen.errors import NoInks, NoShade, NoShares, OutOfPicture
from dotscreen.handing import handed
from dotscreen.pictures import Picture
from dotscreen.ways import ColumnWay, FoldedWay, FroWay, MaskedWay, Way
from tests.helpers import (ENDLESS, HUGE, DotTest, by_rows, drawn, inks_of, laid, made, plain, reckoned, spoilt_inks,
                           spoilt_shares, ways_through)

SHARES = [[1], [7, 1], [0, 1], [1, 0, 0], [0, 0, 3], [7, 3, 5, 1], [1] * 20, [HUGE, 0, HUGE - 1, 1], [3, 2]]


def changed(picture, changes):
    """The picture behind the changes, one after the other."""
    rows = [list(row) for row in picture.rows]
    for (row, column), shade in changes:
        rows[row][column] = shade
    return Picture(picture.most, rows)


def due_pair(before, after, way, shares, inks):
    """The pair (first, last), as the document tells it."""
    old, new = reckoned(before, way, shares, inks), reckoned(after, way, shares, inks)
    others = [number for number, row in enumerate(old)
              if before.rows[row[0][0]][row[0][1]] != after.rows[row[0][0]][row[0][1]]]
    if not others:
        return (0, 0)
    for number in range(max(others) + 1, len(old)):
        if state(old, number, shares) == state(new, number, shares):
            return (min(others), number)
    return (min(others), len(old))


def state(rows, number, shares):
    lefts = [rows[number - back][3] if number >= back else 0 for back in range(1, len(shares) + 1)]
    return lefts, rows[number - 1][4]


def drawn_changes(draw, high, wide, most):
    """Changes of none, one and several cells, some of them twice, to any shade, to 0 and to the most."""
    changes = [((draw.randrange(high), draw.randrange(wide)), draw.choice([0, most, draw.randint(0, most)]))
               for number in range(draw.choice([0, 1, 1, 1, 2, 5]))]
    return changes + [(cell, draw.randint(0, most)) for cell, shade in changes[:draw.randrange(2)]]


class SettingTest(DotTest):
    def assert_holds(self, setting, picture, way, shares, inks):
        due = laid(reckoned(picture, way, shares, inks), picture)
        self.assert_same(self.ask(setting.picture_now), picture)
        self.assert_picture(self.ask(setting.dots), picture.most, due)
        self.assert_same(setting.dots(), handed(picture, way, shares, inks))

    def assert_changed(self, setting, picture, way, shares, inks, changes):
        """The picture behind the changes; what is told by the way is held against the told rule."""
        later = changed(picture, changes)
        ahead = setting.dots()
        told = self.ask(setting.change, changes)
        self.assertIs(type(told), tuple)
        self.assert_equal(told, due_pair(picture, later, way, shares, inks))
        self.assert_holds(setting, later, way, shares, inks)
        behind = setting.dots()
        order = way.order(len(picture.rows), len(picture.rows[0]))
        for row, column in order[:told[0]] + order[told[1]:]:
            self.assertTrue(behind.rows[row][column] == ahead.rows[row][column])
        return later

    def test_a_change_by_hand(self):
        setting = Setting(Picture(9, [[4, 4, 4, 4, 0, 0]]), Way(), [1], [0, 9])
        self.assert_picture(setting.dots(), 9, [[0, 9, 0, 9, 0, 0]])
        # What is left was 4, -1, 3, -2, -2, -2, and is 4, -1, 4, -1, -1, -1.
        self.assertEqual(self.ask(setting.change, [((0, 2), 5)]), (2, 6))
        self.assert_picture(setting.picture_now(), 9, [[4, 4, 5, 4, 0, 0]])
        self.assert_picture(setting.dots(), 9, [[0, 9, 0, 9, 0, 0]])
        self.assertEqual(setting.change([((0, 3), 5), ((0, 1), 4)]), (3, 6))

    def test_what_is_left_comes_to_be_as_it_was(self):
        setting = Setting(Picture(9, [[4, 4, 0, 0, 0]]), Way(), [1], [0, 9])
        # A whole ink more takes an ink more, and leaves what was left.
        self.assertEqual(setting.change([((0, 1), 5)]), (1, 5))
        self.assertEqual(setting.change([((0, 0), 0), ((0, 1), 9)]), (0, 2))
        self.assert_picture(setting.dots(), 9, [[0, 9, 0, 0, 0]])

    def test_as_many_cells_ahead_as_there_are_shares(self):
        # What was left at the first cell alone is another: it counts as far as there are shares, though they are 0.
        for number in range(1, 8):
            shares = [1] + [0] * (number - 1)
            setting = Setting(Picture(9, [[1, 8, 0, 0, 0, 0, 0, 0, 0, 0]]), Way(), shares, [0, 9])
            self.assertEqual(setting.change([((0, 0), 0), ((0, 1), 9)]), (0, number + 1))

    def test_shares_that_leave_odd_parts(self):
        stopped = 0
        draw = random.Random(3)
        for number in range(300):
            inks = draw.choice([[0, 3, 6, 9], [0, 9], [0, 2, 4, 9], list(range(10))])
            shares = draw.choice([[2, 1], [1, 2], [3, 4], [1, 1, 5], [5, 0, 2]])
            picture = drawn(1, 20, 9, number)
            changes = [((0, column), draw.randint(0, 9)) for column in range(3)]
            due = due_pair(picture, changed(picture, changes), Way(), shares, inks)
            self.assertEqual(Setting(picture, Way(), shares, inks).change(changes), due)
            stopped += 0 < due[1] < 20
        self.assertGreater(stopped, 50)

    def test_many_changes_one_behind_the_other(self):
        stopped = 0
        for high, wide in ((1, 1), (1, 9), (9, 1), (5, 6)):
            for most, inks in ((1, [0, 1]), (9, [0, 4, 9]), (9, list(range(10))), (HUGE, inks_of(7, HUGE))):
                for way in ways_through(high, wide):
                    draw = random.Random(high + wide + most % 97)
                    shares = draw.choice(SHARES)
                    picture = drawn(high, wide, most, high)
                    setting = self.ask(Setting, picture, way, shares, inks)
                    self.assert_holds(setting, picture, way, shares, inks)
                    for number in range(12):
                        changes = drawn_changes(draw, high, wide, most)
                        later = self.assert_changed(setting, picture, way, shares, inks, changes)
                        stopped += 0 < due_pair(picture, later, way, shares, inks)[1] < len(way.order(high, wide))
                        picture = later
        self.assertGreater(stopped, 50)

    def test_every_one_of_the_shares(self):
        for shares in SHARES:
            draw = random.Random(sum(shares) % 101)
            picture = made(6, 7, 12)
            for way in (Way(), FoldedWay(), MaskedWay(FroWay(), [(0, 0), (3, 3)])):
                setting = Setting(picture, way, shares, [0, 3, 6, 9, 12])
                now = picture
                for number in range(15):
                    changes = drawn_changes(draw, 6, 7, 12)
                    now = self.assert_changed(setting, now, way, shares, [0, 3, 6, 9, 12], changes)
                for number in range(15):
                    row, column = draw.randrange(6), draw.randrange(7)
                    # Three more or fewer are just an ink, so that what is left is soon as it was.
                    shade = now.rows[row][column] + (3 if now.rows[row][column] < 9 else -3)
                    now = self.assert_changed(setting, now, way, shares, [0, 3, 6, 9, 12], [((row, column), shade)])

    def test_nothing_changed(self):
        picture = made(3, 4)
        setting = Setting(picture, FroWay(), [3, 1], [0, 4, 9])
        for changes in ([], (), [((1, 1), picture.rows[1][1])], [((0, 0), 7), ((0, 0), picture.rows[0][0])],
                        [((2, 3), 0), ((1, 0), 9), ((1, 0), picture.rows[1][0]), ((2, 3), picture.rows[2][3])]):
            self.assertEqual(self.ask(setting.change, changes), (0, 0))
            self.assert_holds(setting, picture, FroWay(), [3, 1], [0, 4, 9])

    def test_a_cell_twice_the_last_one_holds(self):
        picture = made(3, 4)
        setting = Setting(picture, FroWay(), [3, 1], [0, 4, 9])
        changes = [((0, 1), 0), ((2, 2), 9), ((0, 1), 8), ((0, 1), 7)]
        later = self.assert_changed(setting, picture, FroWay(), [3, 1], [0, 4, 9], changes)
        self.assertEqual((later.rows[0][1], later.rows[2][2]), (7, 9))

    def test_a_cell_there_and_back_beside_another_that_is_changed(self):
        picture = made(3, 4)
        setting = Setting(picture, Way(), [1], [0, 4, 9])
        back = picture.rows[0][1]
        other = (picture.rows[1][2] + 1) % 10
        told = setting.change([((0, 1), (back + 1) % 10), ((1, 2), other), ((0, 1), back)])
        self.assertEqual(told[0], 6)
        self.assert_holds(setting, changed(picture, [((1, 2), other)]), Way(), [1], [0, 4, 9])

    def test_there_and_back_in_two_changes(self):
        picture = made(5, 6)
        for way in ways_through(5, 6):
            setting = Setting(picture, way, [7, 3, 5, 1], [0, 4, 9])
            ahead = plain(setting.dots())
            there = [((1, 1), 9 - picture.rows[1][1]), ((4, 5), 9 - picture.rows[4][5])]
            back = [((1, 1), picture.rows[1][1]), ((4, 5), picture.rows[4][5])]
            later = self.assert_changed(setting, picture, way, [7, 3, 5, 1], [0, 4, 9], there)
            self.assert_changed(setting, later, way, [7, 3, 5, 1], [0, 4, 9], back)
            self.assert_equal(plain(setting.dots()), ahead)

    def test_cells_that_the_way_leaves_out(self):
        way = MaskedWay(Way(), [(0, 0), (1, 2)])
        picture = made(2, 3)
        setting = Setting(picture, way, [1], [0, 9])
        ahead = plain(setting.dots())
        self.assertEqual(self.ask(setting.change, [((0, 0), 9), ((1, 2), 5)]), (0, 0))
        self.assert_equal(plain(setting.dots()), ahead)
        picture = changed(picture, [((0, 0), 9), ((1, 2), 5)])
        self.assert_holds(setting, picture, way, [1], [0, 9])
        self.assert_changed(setting, picture, way, [1], [0, 9], [((0, 0), 1), ((0, 2), 9 - picture.rows[0][2])])

    def test_all_cells_left_out(self):
        way = MaskedWay(Way(), by_rows(2, 3))
        setting = Setting(made(2, 3), way, [1], [0, 9])
        self.assertEqual(setting.change([((0, 0), 9), ((1, 2), 5)]), (0, 0))
        self.assert_holds(setting, changed(made(2, 3), [((0, 0), 9), ((1, 2), 5)]), way, [1], [0, 9])

    def test_a_hundred_changes_of_a_great_picture(self):
        draw = random.Random(9)
        picture = made(64, 64, 4000)
        way, shares, inks = FoldedWay(), [7, 3, 5, 1], inks_of(20, 4000)
        setting = Setting(picture, way, shares, inks)
        changes = [((draw.randrange(64), draw.randrange(64)), draw.randint(0, 4000)) for number in range(100)]
        later = self.assert_changed(setting, picture, way, shares, inks, changes)
        self.assert_changed(setting, later, way, shares, inks, [((63, 0), 4000)])

    def test_many_changes_without_delay(self):
        draw = random.Random(9)
        setting = Setting(made(64, 64, 4000), FoldedWay(), list(range(1, 21)), inks_of(20, 4000))
        begun = time.process_time()
        for number in range(40):
            setting.change([((draw.randrange(64), draw.randrange(64)), draw.randint(0, 4000))])
        self.assertLess(time.process_time() - begun, 30)

    def test_changes_as_a_tuple(self):
        one, other = (Setting(made(3, 4), Way(), (3, 1), (0, 4, 9)) for number in range(2))
        changes = [((0, 1), 9), ((2, 2), 0)]
        self.assertEqual(self.ask(one.change, tuple(changes)), other.change(changes))
        self.assert_same(one.dots(), other.dots())

    def test_what_was_told_ahead_stays(self):
        setting = Setting(made(3, 4), Way(), [3, 1], [0, 4, 9])
        picture, dots = setting.picture_now(), setting.dots()
        ahead = plain([picture, dots])
        setting.change([(cell, 9) for cell in by_rows(3, 4)])
        self.assert_equal(plain([picture, dots]), ahead)
        self.assertNotEqual(plain([setting.picture_now(), setting.dots()]), ahead)

    def test_what_was_told_is_the_askers_own(self):
        given = made(3, 4)
        setting = Setting(given, Way(), [3, 1], [0, 4, 9])
        for method in (setting.picture_now, setting.dots):
            self.assertIsNot(method(), method())
            self.assertIsNot(method(), given)
        self.assert_no_list_twice(setting.picture_now(), setting.dots())

    def test_two_settings_of_the_very_same_things(self):
        picture, way, shares, inks = made(3, 4), MaskedWay(FroWay(), [(0, 0)]), [3, 1], [0, 4, 9]
        one, other = Setting(picture, way, shares, inks), Setting(picture, way, shares, inks)
        ahead = plain([picture, way, shares, inks])
        later = self.assert_changed(one, picture, way, shares, inks, [((1, 1), 9), ((0, 3), 0)])
        self.assert_holds(other, picture, way, shares, inks)
        self.assert_changed(other, picture, way, shares, inks, [((2, 1), 9)])
        self.assert_holds(one, later, way, shares, inks)
        self.assert_equal(plain([picture, way, shares, inks]), ahead)

    def test_the_lists_handed_in_changed_behind(self):
        picture = drawn(5, 6, 9, 2)
        rows, mask, shares, inks = [list(row) for row in picture.rows], [(0, 1)], [3, 1], [0, 4, 9]
        setting = Setting(Picture(9, rows), MaskedWay(Way(), mask), shares, inks)
        rows[0][0], shares[0], inks[1] = 9 - rows[0][0], 0, 1
        rows.pop()
        mask.append((0, 0))
        shares.append(5)
        inks.pop()
        way = MaskedWay(Way(), [(0, 1)])
        self.assert_holds(setting, picture, way, [3, 1], [0, 4, 9])
        changes = [((1, 1), 5), ((0, 0), 3), ((3, 4), 7)]
        later = self.assert_changed(setting, picture, way, [3, 1], [0, 4, 9], changes)
        changes.clear()
        self.assert_holds(setting, later, way, [3, 1], [0, 4, 9])
        self.assert_changed(setting, later, way, [3, 1], [0, 4, 9], [((0, 0), 7)])


class RefusedTest(DotTest):
    def test_the_wrong_shares(self):
        for shares in spoilt_shares():
            for inks in ([0, 9], [0, 4, 9], [], [0], [1, 9], [0, 8], [0, 4, 4, 9], [0, 5, 4, 9]):
                self.assert_refused(NoShares, Setting, made(2, 3), Way(), shares, inks)
            self.assert_refused(NoShares, Setting, made(2, 3), FoldedWay(), tuple(shares), (0, 9))

    def test_the_wrong_inks(self):
        for inks, most in spoilt_inks():
            picture = Picture(most, [[0, 1], [most, 4]])
            self.assert_refused(NoInks, Setting, picture, FroWay(), [1], inks)
            self.assert_refused(NoInks, Setting, picture, FroWay(), (7, 0, 1), tuple(inks))

    def assert_nothing_done(self, kind, changes):
        picture = made(3, 4)
        for way in (ColumnWay(), MaskedWay(Way(), [(0, 0), (2, 3)])):
            setting, other = (Setting(picture, way, [3, 1], [0, 4, 9]) for number in range(2))
            ahead = plain([setting.picture_now(), setting.dots()])
            self.assert_refused(kind, setting.change, changes)
            self.assert_refused(kind, setting.change, tuple(changes))
            self.assert_equal(plain([setting.picture_now(), setting.dots()]), ahead)
            good = [((0, 1), 9 - picture.rows[0][1]), ((2, 2), 0)]
            self.assertEqual(setting.change(good), other.change(good))
            self.assert_same(setting.picture_now(), other.picture_now())
            self.assert_same(setting.dots(), other.dots())

    def with_wrong(self, wrong):
        """The wrong change at any place among good ones."""
        good = [((1, 1), 9), ((0, 0), 5), ((2, 3), 0)]
        yield [wrong]
        for place in range(4):
            yield good[:place] + [wrong] + good[place:]

    def test_a_wrong_cell(self):
        for cell in ((-1, 0), (0, -1), (-1, -1), (3, 0), (0, 4), (3, 4), (-3, -4), (HUGE, 0), (0, HUGE), (-HUGE, 1),
                     (1, -HUGE), (ENDLESS, ENDLESS)):
            for changes in self.with_wrong((cell, 5)):
                self.assert_nothing_done(OutOfPicture, changes)

    def test_a_wrong_shade(self):
        for shade in (-1, 10, -HUGE, HUGE, ENDLESS, -ENDLESS):
            for cell in ((0, 1), (0, 0), (2, 3)):
                for changes in self.with_wrong((cell, shade)):
                    self.assert_nothing_done(NoShade, changes)

    def test_a_wrong_shade_that_a_later_change_mends(self):
        self.assert_nothing_done(NoShade, [((1, 1), 10), ((1, 1), 9)])

    def test_both_at_once(self):
        self.assert_nothing_done(OutOfPicture, [((3, 0), -1)])
        for wrong in ([((1, 1), 10), ((3, 0), 5)], [((0, -1), 5), ((1, 1), -1)]):
            for place in range(3):
                self.assert_nothing_done(OutOfPicture, wrong[:1] + [((0, 1), 9)] * place + wrong[1:])
                self.assert_nothing_done(OutOfPicture, [((0, 1), 9)] * place + wrong)

    def test_a_refusal_behind_changes_that_were_made(self):
        setting, other = (Setting(made(3, 4), Way(), [3, 1], [0, 4, 9]) for number in range(2))
        for each in (setting, other):
            each.change([((0, 0), 8), ((1, 2), 1)])
        self.assert_refused(NoShade, setting.change, [((0, 0), 3), ((0, 1), 10)])
        self.assert_refused(OutOfPicture, setting.change, [((0, 0), 3), ((0, 4), 1)])
        self.assert_same(setting.picture_now(), other.picture_now())
        self.assertEqual(setting.change([((0, 0), 8), ((2, 2), 1)]), other.change([((0, 0), 8), ((2, 2), 1)]))
        self.assert_same(setting.dots(), other.dots())


if __name__ == "__main__":
    unittest.main()
