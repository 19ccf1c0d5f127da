"""The whole program: its interface, and what its parts promise together."""

import importlib
import inspect
import random
import unittest

from dotscreen.anew import Setting
from dotscreen.around import spread_on
from dotscreen.cutting import cut_up, put_together
from dotscreen.errors import DotError
from dotscreen.hall import handed_text, screened_text
from dotscreen.handing import bound_of, handed, ledger
from dotscreen.layers import laid_over, seen_of, without_cells
from dotscreen.notes import read_numbers, read_picture, read_tile, written_numbers, written_picture, written_tile
from dotscreen.pictures import Picture, shades_sum
from dotscreen.screens import screened
from dotscreen.stretches import laid_along, stretches_along
from dotscreen.tilemaking import doubled_tile, spread_tile
from dotscreen.tiles import level_of
from dotscreen.ways import ColumnWay, FoldedWay, FroWay, MaskedWay, Way, folded_cells, way_by
from dotscreen.windows import read_back, window_sums
from tests.helpers import HUGE, DotTest, by_rows, drawn, inks_of, made, plain

WORDS = ["rows", "fro", "columns", "folded"]
KINDS = ["NoPicture", "OutOfPicture", "NoMeet", "NoTile", "NoInks", "NoShares", "NoShade", "NoStretches", "NoWay",
         "NoText"]
INTERFACE = {
    "pictures": ["Picture(most, rows)", "high(picture)", "wide(picture)", "shade_at(picture, cell)",
                 "shades_sum(picture)", "part_of(picture, top, left, high, wide)", "beside(one, other)",
                 "below(one, other)"],
    "cutting": ["cut_up(picture, high, wide)", "put_together(pieces)"],
    "tiles": ["Tile(count, rows)", "threshold_at(tile, row, column)", "level_of(tile, level)"],
    "tilemaking": ["doubled_tile(times)", "spread_tile(high, wide)", "nearest_two(tile, level)"],
    "screens": ["screened(picture, tile, inks, top=0, left=0)", "ask_inks(inks, most)"],
    "ways": ["Way()", "FroWay()", "ColumnWay()", "FoldedWay()", "MaskedWay(way, mask)", "folded_cells(side)",
             "way_by(word)"],
    "handing": ["handed(picture, way, shares, inks)", "ledger(picture, way, shares, inks)", "bound_of(shares, inks)"],
    "around": ["spread_on(picture, around, inks)"],
    "anew": ["Setting(picture, way, shares, inks)"],
    "windows": ["window_sums(picture, high, wide)", "read_back(picture, high, wide)"],
    "stretches": ["stretches_along(picture, way)", "laid_along(most, high, wide, way, stretches)"],
    "layers": ["laid_over(pictures)", "without_cells(picture, mask)", "seen_of(pictures)"],
    "notes": ["written_picture(picture)", "written_tile(tile)", "written_numbers(numbers)", "read_picture(text)",
              "read_tile(text)", "read_numbers(text)"],
    "hall": ["screened_text(picture_text, tile_text, inks_text)",
             "handed_text(picture_text, word, shares_text, inks_text)"],
}


class InterfaceTest(DotTest):
    def test_every_name_with_its_arguments(self):
        for module, told in INTERFACE.items():
            for line in told:
                with self.subTest(module=module, line=line):
                    name = line.partition("(")[0]
                    value = getattr(importlib.import_module("dotscreen." + module), name)
                    self.assertEqual(value.__module__, "dotscreen." + module)
                    self.assertEqual(name + str(inspect.signature(value)), line)

    def test_methods(self):
        for kind in (Way, FroWay, ColumnWay, FoldedWay, MaskedWay):
            self.assertEqual(str(inspect.signature(kind.order)), "(self, high, wide)")
            self.assertEqual(str(inspect.signature(kind.word)), "(self)")
        for method, due in ((Setting.picture_now, "(self)"), (Setting.dots, "(self)"),
                            (Setting.change, "(self, changes)")):
            self.assertEqual(str(inspect.signature(method)), due)

    def test_no_class_of_a_refusal_stands_beneath_another_ones(self):
        errors = importlib.import_module("dotscreen.errors")
        for kind in KINDS:
            self.assertEqual(getattr(errors, kind).__mro__[1:3], (DotError, ValueError))
        self.assertEqual({kind.__name__ for kind in DotError.__subclasses__()}, set(KINDS))
        self.assertEqual([kind for each in DotError.__subclasses__() for kind in each.__subclasses__()], [])


class ToldTest(DotTest):
    """[3] What is told is the asker's own."""

    def answers(self):
        """Each question that is answered by lists, or by things within which lists might stand."""
        picture, tile = made(4, 6, 9), doubled_tile(2)
        setting = Setting(picture, FroWay(), [3, 1], [0, 4, 9])
        text = written_picture(picture)
        yield from [(cut_up, picture, 2, 2), (level_of, tile, 5), (folded_cells, 4), (Way().order, 3, 4),
                    (MaskedWay(FoldedWay(), [(0, 0)]).order, 3, 4), (ledger, picture, FroWay(), [3, 1], [0, 4, 9]),
                    (handed, picture, FroWay(), [3, 1], [0, 4, 9]), (screened, picture, tile, [0, 4, 9]),
                    (spread_on, picture, [(0, 1, 7), (1, 0, 5), (0, 1, 7)], [0, 4, 9]), (setting.dots,),
                    (setting.picture_now,), (setting.change, []), (window_sums, picture, 1, 1),
                    (window_sums, picture, 3, 2), (read_back, picture, 2, 2), (stretches_along, picture, FoldedWay()),
                    (laid_along, 9, 4, 6, Way(), [(3, 24)]), (laid_over, [picture, picture]),
                    (seen_of, [picture, picture]),
                    (without_cells, picture, [(0, 0), (0, 0)]), (read_picture, text), (read_tile, "4\n1 3\n4 2"),
                    (read_numbers, "1 2 3"), (way_by, "fro"), (bound_of, [3, 1], [0, 9]), (doubled_tile, 2),
                    (spread_tile, 3, 4)]

    def test_no_two_lists_are_one_and_nothing_changes_by_asking(self):
        for function, *asked in self.answers():
            told = self.ask(function, *asked)
            again = self.ask(function, *asked)
            self.assert_equal(plain(told), plain(again))
            self.assert_no_list_twice(asked, told, again)

    def test_lists_that_are_told_are_changed(self):
        for function, *asked in self.answers():
            due = plain(function(*asked))
            told = function(*asked)
            if type(told) is list:
                for each in told:
                    if type(each) is list:
                        each.clear()
                told.clear()
            self.assert_equal(plain(function(*asked)), due)

    def test_each_answer_is_a_thing_of_its_own(self):
        for function, *asked in self.answers():
            told = function(*asked)
            if not isinstance(told, (int, tuple)):
                self.assertIsNot(function(*asked), told)
                for thing in asked:
                    self.assertIsNot(told, thing)


class ScreenedTest(DotTest):
    def test_from_texts_and_by_pieces_and_darker(self):
        for tile in (doubled_tile(3), spread_tile(5, 7)):
            for most, inks in ((9, [0, 4, 9]), (HUGE, inks_of(6, HUGE))):
                picture = drawn(11, 13, most, 3)
                text = screened_text(written_picture(picture), written_tile(tile), written_numbers(inks))
                told = read_picture(text)
                self.assert_same(told, screened(picture, tile, inks))
                for size in ((1, 1), (4, 5), (11, 3), (20, 20)):
                    pieces = [(top, left, screened(piece, tile, inks, top, left))
                              for top, left, piece in cut_up(picture, *size)]
                    random.Random(1).shuffle(pieces)
                    self.assert_same(put_together(pieces), told)
                darker = Picture(most, [[min(most, shade + most // 7) for shade in row] for row in picture.rows])
                dark = read_picture(screened_text(written_picture(darker), written_tile(tile), written_numbers(inks)))
                for row, other in zip(dark.rows, told.rows):
                    self.assertTrue(all(one >= lesser for one, lesser in zip(row, other)))
                self.assertGreater(shades_sum(dark), shades_sum(told))

    def test_read_back_a_picture_of_one_shade_by_the_tiles_size(self):
        tile = doubled_tile(2)
        for shade in range(17):
            dots = screened(Picture(16, [[shade] * 12] * 12), tile, [0, 16])
            self.assert_picture(read_back(dots, 4, 4), 16, [[shade] * 9] * 9)


class HandedTest(DotTest):
    def test_from_texts_and_its_sums_stretches_pieces_and_layers(self):
        for word in WORDS:
            for most, inks in ((9, [0, 4, 9]), (HUGE, inks_of(6, HUGE))):
                for shares in ([1], [7, 3, 5, 1], [0, HUGE, 2]):
                    picture = drawn(9, 11, most, 3)
                    text = handed_text(written_picture(picture), word, written_numbers(shares), written_numbers(inks))
                    told = read_picture(text)
                    self.assert_same(told, handed(picture, way_by(word), shares, inks))
                    self.assert_within_bound(picture, told, way_by(word), bound_of(shares, inks))
                    self.assert_told_back(told, way_by(word))
                    self.assert_same(handed(told, way_by(word), shares, inks), told)

    def assert_within_bound(self, picture, dots, way, bound):
        differ = 0
        for row, column in way.order(len(picture.rows), len(picture.rows[0])):
            differ += picture.rows[row][column] - dots.rows[row][column]
            self.assertTrue(abs(differ) <= bound)

    def assert_told_back(self, dots, way):
        high, wide = len(dots.rows), len(dots.rows[0])
        self.assert_same(laid_along(dots.most, high, wide, way, stretches_along(dots, way)), dots)
        self.assert_same(put_together(cut_up(dots, 4, 3)[::-1]), dots)
        mask = by_rows(high, wide)[1::3] * 2
        less = without_cells(dots, mask)
        self.assert_same(laid_over([dots, less]), dots)
        self.assert_same(laid_over([less, dots]), dots)
        masked = MaskedWay(way, mask)
        self.assert_same(laid_along(dots.most, high, wide, masked, stretches_along(dots, masked)), less)
        rest = without_cells(dots, [cell for cell in by_rows(high, wide) if cell not in mask])
        self.assert_same(laid_over([less, rest]), dots)
        shown = [sum(shade > 0 for row in each.rows for shade in row) for each in (less, rest)]
        self.assertEqual(seen_of([less, rest]), shown + [high * wide - sum(shown)])

    def test_handed_along_a_masked_way_has_paper_at_the_mask(self):
        mask = by_rows(9, 11)[::4]
        for word in WORDS:
            dots = handed(drawn(9, 11, 9, 1), MaskedWay(way_by(word), mask), [2, 1], [0, 4, 9])
            self.assert_same(without_cells(dots, mask), dots)


class SettingTest(DotTest):
    def test_changed_many_times_and_all_changed_back(self):
        draw = random.Random(11)
        for word in WORDS:
            way = MaskedWay(way_by(word), [(0, 1), (4, 4)])
            picture = drawn(7, 8, 99, 5)
            setting = Setting(picture, way, [7, 3, 5, 1], [0, 33, 66, 99])
            touched = {}
            for number in range(30):
                changes = [((draw.randrange(7), draw.randrange(8)), draw.randint(0, 99)) for place in range(number % 4)]
                setting.change(changes)
                touched.update(changes)
                self.assert_same(setting.dots(), handed(setting.picture_now(), way, [7, 3, 5, 1], [0, 33, 66, 99]))
            setting.change([(cell, picture.rows[cell[0]][cell[1]]) for cell in touched])
            self.assert_same(setting.picture_now(), picture)
            self.assert_same(setting.dots(), handed(picture, way, [7, 3, 5, 1], [0, 33, 66, 99]))


class AgainTest(DotTest):
    """[2] What the program told may be handed in again, also where it is beyond the bounds."""

    def test_a_text_of_more_than_fifty_thousand_signs(self):
        text = written_picture(Picture(HUGE, [[HUGE] * 64] * 64))
        self.assertGreater(len(text), 50000)
        self.assertTrue(written_picture(read_picture(text)) == text)
        self.assertTrue(handed_text(text, "folded", "7 1", "0 " + str(HUGE)) == text)

    def test_a_picture_of_more_than_sixty_four_rows(self):
        pieces = [(64 * place, 0, drawn(64, 2, 9, place)) for place in range(3)]
        tall = put_together(pieces)
        self.assertEqual(len(tall.rows), 192)
        dots = handed(tall, FoldedWay(), [7, 1], [0, 4, 9])
        self.assert_same(laid_along(9, 192, 2, FoldedWay(), stretches_along(dots, FoldedWay())), dots)
        self.assert_same(read_picture(written_picture(dots)), dots)
        self.assert_same(laid_over([dots, dots]), dots)


if __name__ == "__main__":
    unittest.main()
