"""[25] texts of pictures, tiles and numbers, [26] such texts read."""

import unittest

from dotscreen.errors import NoPicture, NoText, NoTile
from dotscreen.notes import read_numbers, read_picture, read_tile, written_numbers, written_picture, written_tile
from dotscreen.pictures import Picture
from dotscreen.tilemaking import doubled_tile, spread_tile
from dotscreen.tiles import Tile
from tests.helpers import HUGE, DotTest, drawn, made, made_tile, numbered, numbered_tile

# Each is no number.
WORDS = ["01", "00", "007", "+1", "-1", "-0", "--1", "a", "1a", "a1", "1.0", "1.", ".5", "1e3", "1_0", "0x1", "O",
         "1,2", "1/2", "1" * 31, "9" * 31, "0" * 30, "1" * 5000, "0" * 31, "\t1", "1\t", "1\t2", "~", "!", "'1'",
         "[1]", "1;", "None"]
# Each is no row of numbers, whatever row it is.
ROWS = WORDS + ["", " ", "  ", " 1", "1 ", " 1 ", "1  1", "1 1 ", " 1 1", "1   1"] + [f"1 {word}" for word in WORDS] + [
    f"{word} 1" for word in WORDS] + [f"1 {word} 1" for word in WORDS]

POWERS = [10 ** figures for figures in range(30)]
LINES = [[0], [7], [0, 0], [1, 2, 3], POWERS, [HUGE, 0, HUGE - 1], list(range(64))]


class WrittenTest(DotTest):
    def test_pictures(self):
        for picture, due in ((Picture(9, [[0]]), "9\n0"), (Picture(9, [[0, 3, 6], [9, 1, 4]]), "9\n0 3 6\n9 1 4"),
                             (Picture(10, [[10], [0]]), "10\n10\n0"), (Picture(1, [[1, 0]]), "1\n1 0"),
                             (Picture(HUGE, [[HUGE, 0]]), "9" * 30 + "\n" + "9" * 30 + " 0")):
            self.assertEqual(self.ask(written_picture, picture), due)

    def test_tiles(self):
        for tile, due in ((doubled_tile(0), "1\n1"), (doubled_tile(1), "4\n1 3\n4 2"),
                          (Tile(10, [[10, 1, 2]]), "10\n10 1 2"),
                          (Tile(HUGE, [[1], [HUGE]]), "9" * 30 + "\n1\n" + "9" * 30)):
            self.assertEqual(self.ask(written_tile, tile), due)

    def test_numbers(self):
        for numbers, due in (([0], "0"), ([7], "7"), ([7, 0, 1], "7 0 1"), ([10, 100], "10 100"),
                             ([HUGE, 0], "9" * 30 + " 0")):
            self.assertEqual(self.ask(written_numbers, numbers), due)
            self.assertEqual(self.ask(written_numbers, tuple(numbers)), due)

    def test_signs_and_kinds(self):
        for text in (written_picture(made(3, 4)), written_tile(made_tile(3, 4)), written_numbers([1, 2])):
            self.assertIs(type(text), str)
            self.assertRegex(text, r"\A[0-9 \n]+\Z")


class ReadBackTest(DotTest):
    def test_pictures(self):
        for high, wide in ((1, 1), (1, 5), (5, 1), (3, 4), (64, 1), (1, 64), (64, 64)):
            for picture in (made(high, wide), numbered(high, wide), Picture(1, [[1] * wide] * high),
                            drawn(high, wide, HUGE, 2)):
                text = written_picture(picture)
                told = self.ask(read_picture, text)
                self.assert_same(told, picture)
                self.assertTrue(written_picture(told) == text)

    def test_tiles(self):
        for high, wide in ((1, 1), (1, 5), (5, 1), (3, 4), (64, 64)):
            for tile in (made_tile(high, wide), numbered_tile(high, wide), Tile(HUGE, [[HUGE] * wide] * high)):
                text = written_tile(tile)
                told = self.ask(read_tile, text)
                self.assert_tile(told, tile.count, tile.rows)
                self.assertTrue(written_tile(told) == text)
        for tile in (doubled_tile(3), spread_tile(4, 5)):
            self.assert_tile(read_tile(written_tile(tile)), tile.count, tile.rows)

    def test_numbers(self):
        for numbers in LINES:
            text = written_numbers(numbers)
            told = self.ask(read_numbers, text)
            self.assertEqual(told, numbers)
            self.assertIs(type(told), list)
            self.assertEqual(written_numbers(tuple(numbers)), text)
        for figures in range(1, 31):
            self.assertEqual(read_numbers("9" * figures), [10 ** figures - 1])

    def test_numbers_of_one_to_thirty_figures_in_pictures_and_tiles(self):
        picture = self.ask(read_picture, str(HUGE) + "\n" + " ".join(str(power) for power in POWERS))
        self.assert_picture(picture, HUGE, [POWERS])
        tile = self.ask(read_tile, str(HUGE) + "\n" + "\n".join(str(power) for power in POWERS))
        self.assert_tile(tile, HUGE, [[power] for power in POWERS])

    def test_told_lists_changed_and_asked_again(self):
        self.assert_told_anew(read_numbers, "1 2 3")
        self.assert_no_list_twice(read_numbers("1 2"), read_numbers("1 2"), read_picture("9\n1 2\n1 2"))


class RefusedTest(DotTest):
    def assert_line(self, function, text, line):
        with self.assertRaises(NoText) as caught:
            self.ask(function, text)
        self.assertIs(type(caught.exception), NoText)
        self.assertIs(type(caught.exception.line), int)
        self.assert_equal((text[:60], caught.exception.line), (text[:60], line))
        str(caught.exception)

    def test_a_wrong_row_of_a_picture_or_tile(self):
        for function in (read_picture, read_tile):
            for wrong in ROWS:
                rows = ["9", "1 2", "3 4", "5 6", "7 8"]
                for line in range(5):
                    text = "\n".join(rows[:line] + [wrong] + rows[line + 1:])
                    self.assert_line(function, text, line)
                self.assert_line(function, wrong, 0)

    def test_a_wrong_row_of_numbers(self):
        for wrong in ROWS:
            self.assert_line(read_numbers, wrong, 0)
            self.assert_line(read_numbers, wrong + "\n1", 0)
            self.assert_line(read_numbers, "1 2\n" + wrong, 1)

    def test_a_second_row_of_numbers(self):
        for text in ("1\n2", "1 2\n3 4", "1\n", "1\n\n", "0\n0\n0", "1\nx\ny"):
            self.assert_line(read_numbers, text, 1)
        for text in ("\n", "\n1", "\n\n", " \n1", "x\n1\n2"):
            self.assert_line(read_numbers, text, 0)

    def test_the_empty_text(self):
        for function in (read_picture, read_tile, read_numbers):
            self.assert_line(function, "", 0)

    def test_two_numbers_in_the_first_row(self):
        for function in (read_picture, read_tile):
            for head in ("9 9", "9 1 2", "0 0", "9 0"):
                self.assert_line(function, head, 0)
                self.assert_line(function, head + "\n1 2", 0)
                self.assert_line(function, head + "\nx", 0)

    def test_one_row_alone(self):
        for function in (read_picture, read_tile):
            for head in ("9", "0", "1", "9" * 30):
                self.assert_line(function, head, 1)

    def test_line_ends(self):
        for function in (read_picture, read_tile):
            self.assert_line(function, "9\n", 1)
            self.assert_line(function, "9\n1 2\n", 2)
            self.assert_line(function, "9\n1 2\n3 4\n\n", 3)
            self.assert_line(function, "9\n\n1 2", 1)
            self.assert_line(function, "\n9\n1 2", 0)
            self.assert_line(function, "9\n" + "1\n" * 60, 61)

    def test_two_wrong_rows_the_first_is_told(self):
        rows = ["9", "1 2", "3 4", "5 6"]
        for function in (read_picture, read_tile):
            for first in range(4):
                for second in range(first + 1, 4):
                    for wrong in ("", "x", "01", "1  2"):
                        spoilt = list(rows)
                        spoilt[first], spoilt[second] = wrong, "-1"
                        self.assert_line(function, "\n".join(spoilt), first)
            self.assert_line(function, "9 9\n\n1 2", 0)

    def test_no_picture(self):
        for text in ("9\n10", "9\n1 2\n3 10", "9\n10 1\n2 3", "9\n1 2\n3", "9\n1\n2 3", "9\n1 2\n3 4\n5 6 7",
                     "0\n0", "0\n1", "0\n0 0\n0 0", "9" * 29 + "8\n" + "9" * 30):
            self.assert_refused(NoPicture, read_picture, text)

    def test_no_tile(self):
        for text in ("9\n0", "9\n1 2\n3 0", "9\n10", "9\n1 2\n10 3", "9\n1 2\n3", "9\n1\n2 3", "0\n1", "0\n0",
                     "0\n1 1\n1 1", "9" * 29 + "8\n" + "9" * 30):
            self.assert_refused(NoTile, read_tile, text)

    def test_no_text_ahead_of_no_picture_and_no_tile(self):
        for function in (read_picture, read_tile):
            for text, line in (("9\n10\nx", 2), ("0\n1\n01", 2), ("9\n1 2\n3\n", 3), ("0\n", 1), ("9\n10 x", 1),
                               ("0", 1), ("9\n10 0\n1\n 1", 3)):
                self.assert_line(function, text, line)

    def test_a_refusal_and_then_a_right_one(self):
        self.assert_line(read_picture, "9\nx", 1)
        self.assert_picture(read_picture("9\n1"), 9, [[1]])


if __name__ == "__main__":
    unittest.main()
