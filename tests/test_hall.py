"""[27] from text to answer."""

import unittest

from dotscreen.errors import NoInks, NoPicture, NoShares, NoText, NoTile, NoWay
from dotscreen.hall import handed_text, screened_text
from dotscreen.handing import handed
from dotscreen.notes import read_picture, written_numbers, written_picture, written_tile
from dotscreen.pictures import Picture
from dotscreen.screens import screened
from dotscreen.tilemaking import doubled_tile, spread_tile
from dotscreen.tiles import Tile
from dotscreen.ways import ColumnWay, FoldedWay, FroWay, Way
from tests.helpers import HUGE, DotTest, drawn, inks_of, made, made_tile

WAYS = {"rows": Way(), "fro": FroWay(), "columns": ColumnWay(), "folded": FoldedWay()}
NO_WORDS = ["masked rows", "masked", "masked masked folded", "", " ", "rows ", " rows", "Rows", "row", "ro ws",
            "rows fro", "rows\n", "\n", "folded1", "fro columns"]
PICTURE, TILE, INKS, SHARES = "9\n0 3 6\n9 1 4", "4\n1 3\n4 2", "0 4 9", "7 1"
# Each text is not read; each picture and tile is none; each of these shares and inks is none.
NO_TEXTS = ["", "x", "9 9\n1", "9\n01", "9\n1\n", "9\n1  2", "9\n"]
NO_ROWS = ["", "x", "0 9\n", "01 9", "0  9", " 0 9", "0\t9", "0 -9", "0 " + "9" * 31]
NO_PICTURES = ["9\n10", "0\n0", "9\n1 2\n3"]
NO_TILES = ["9\n0", "0\n1", "9\n10", "9\n1 2\n3"]
NO_INKS = ["0", "9", "0 8", "0 10", "1 9", "0 4 4 9", "0 5 4 9", "0 0", "9 0"]
NO_SHARES = ["0", "0 0 0"]


class ScreenedTextTest(DotTest):
    def test_by_hand(self):
        self.assertEqual(self.ask(screened_text, PICTURE, TILE, INKS), "9\n0 4 9\n9 0 4")

    def test_the_text_of_what_screened_tells(self):
        for high, wide in ((1, 1), (1, 7), (7, 1), (5, 6), (64, 64)):
            for most, inks in ((9, [0, 9]), (9, [0, 4, 9]), (HUGE, inks_of(20, HUGE))):
                picture = drawn(high, wide, most, high)
                for tile in (doubled_tile(2), spread_tile(3, 4), made_tile(3, 2), Tile(HUGE, [[HUGE, 1]])):
                    told = self.ask(screened_text, written_picture(picture), written_tile(tile), written_numbers(inks))
                    self.assertTrue(told == written_picture(screened(picture, tile, inks)))
                    self.assert_same(read_picture(told), screened(picture, tile, inks))

    def test_asked_again_the_same(self):
        due = self.ask(screened_text, PICTURE, TILE, INKS)
        self.assert_refused(NoInks, screened_text, PICTURE, TILE, "0 8")
        self.assertEqual(self.ask(screened_text, PICTURE, TILE, INKS), due)
        self.assertRegex(due, r"\A[0-9 \n]+\Z")

    def test_each_text_wrong_alone_or_with_later_ones(self):
        for later_tile in [TILE] + NO_TEXTS + NO_TILES:
            for later_inks in [INKS] + NO_ROWS + NO_INKS:
                for text in NO_TEXTS:
                    self.assert_refused(NoText, screened_text, text, later_tile, later_inks)
                for text in NO_PICTURES:
                    self.assert_refused(NoPicture, screened_text, text, later_tile, later_inks)
        for later_inks in [INKS] + NO_ROWS + NO_INKS:
            for text in NO_TEXTS:
                self.assert_refused(NoText, screened_text, PICTURE, text, later_inks)
            for text in NO_TILES:
                self.assert_refused(NoTile, screened_text, PICTURE, text, later_inks)
        for text in NO_ROWS:
            self.assert_refused(NoText, screened_text, PICTURE, TILE, text)
        for text in NO_INKS:
            self.assert_refused(NoInks, screened_text, PICTURE, TILE, text)

    def test_the_line_is_that_of_the_first_wrong_text(self):
        for texts, line in ((("9\n1\nx", "4\nx", ""), 2), ((PICTURE, "4\nx", ""), 1), ((PICTURE, TILE, "0 9\n"), 1),
                            ((PICTURE, TILE, ""), 0), (("9", "", "0 9\n"), 1)):
            with self.assertRaises(NoText) as caught:
                screened_text(*texts)
            self.assertEqual(caught.exception.line, line)


class HandedTextTest(DotTest):
    def test_by_hand(self):
        self.assertEqual(self.ask(handed_text, "9\n4 4 4 4", "rows", "1", "0 9"), "9\n0 9 0 9")

    def test_the_text_of_what_handed_tells(self):
        for high, wide in ((1, 1), (1, 7), (7, 1), (5, 6), (64, 64)):
            for most, inks in ((9, [0, 9]), (9, [0, 4, 9]), (HUGE, inks_of(20, HUGE))):
                picture = drawn(high, wide, most, wide)
                for word, way in WAYS.items():
                    for shares in ([1], [7, 3, 5, 1], [0, HUGE]):
                        told = self.ask(handed_text, written_picture(picture), word, written_numbers(shares),
                                        written_numbers(inks))
                        due = handed(picture, way, shares, inks)
                        self.assertTrue(told == written_picture(due))
                        self.assert_same(read_picture(told), due)

    def test_the_four_words_tell_apart(self):
        text = written_picture(made(5, 6))
        self.assertEqual(len({handed_text(text, word, SHARES, INKS) for word in WAYS}), 4)

    def test_asked_again_the_same(self):
        for word in WAYS:
            due = self.ask(handed_text, PICTURE, word, SHARES, INKS)
            self.assert_refused(NoShares, handed_text, PICTURE, word, "0", INKS)
            self.assertEqual(self.ask(handed_text, PICTURE, word, SHARES, INKS), due)

    def test_no_way_ahead_of_all(self):
        for word in NO_WORDS:
            self.assert_refused(NoWay, handed_text, PICTURE, word, SHARES, INKS)
            for picture in [PICTURE] + NO_TEXTS + NO_PICTURES:
                for shares in [SHARES] + NO_ROWS + NO_SHARES:
                    for inks in (INKS, "", "0 8"):
                        self.assert_refused(NoWay, handed_text, picture, word, shares, inks)

    def test_each_text_wrong_alone_or_with_later_ones(self):
        for word in WAYS:
            for shares in [SHARES] + NO_ROWS + NO_SHARES:
                for inks in [INKS] + NO_ROWS + NO_INKS:
                    for text in NO_TEXTS:
                        self.assert_refused(NoText, handed_text, text, word, shares, inks)
                    for text in NO_PICTURES:
                        self.assert_refused(NoPicture, handed_text, text, word, shares, inks)
            for text in NO_ROWS:
                for other in [INKS] + NO_ROWS + NO_INKS:
                    self.assert_refused(NoText, handed_text, PICTURE, word, text, other)
                for other in [SHARES] + NO_SHARES:
                    self.assert_refused(NoText, handed_text, PICTURE, word, other, text)

    def test_no_shares_ahead_of_no_inks(self):
        for word in WAYS:
            for shares in NO_SHARES:
                for inks in [INKS] + NO_INKS:
                    self.assert_refused(NoShares, handed_text, PICTURE, word, shares, inks)
            for inks in NO_INKS:
                self.assert_refused(NoInks, handed_text, PICTURE, word, SHARES, inks)

    def test_the_line_is_that_of_the_first_wrong_text(self):
        for texts, line in ((("9\n1\nx", "", "0 9\n"), 2), ((PICTURE, "1\n2", ""), 1), ((PICTURE, "1", "0 9\n0"), 1),
                            ((PICTURE, "", "0 9\n"), 0), ((PICTURE, "0", ""), 0)):
            with self.assertRaises(NoText) as caught:
                handed_text(texts[0], "fro", texts[1], texts[2])
            self.assertEqual(caught.exception.line, line)

    def test_a_picture_of_one_cell(self):
        for word in WAYS:
            self.assertEqual(handed_text(written_picture(Picture(1, [[1]])), word, "1", "0 1"), "1\n1")


if __name__ == "__main__":
    unittest.main()
