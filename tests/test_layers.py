"""[23] pictures laid over one another and without cells, [24] what follows."""

import itertools
import random
import unittest

from dotscreen.errors import NoMeet, OutOfPicture
from dotscreen.layers import laid_over, seen_of, without_cells
from dotscreen.pictures import Picture
from tests.helpers import ENDLESS, HUGE, DotTest, by_rows, made, numbered, plain

SIZES = [(1, 1), (1, 7), (7, 1), (3, 4), (6, 5)]


def sparse(high, wide, most, seed, paper=3):
    """A picture with paper at as many of four cells."""
    draw = random.Random(seed)
    return Picture(most, [[0 if draw.randrange(4) < paper else draw.randint(1, most) for column in range(wide)]
                          for row in range(high)])


def heaps():
    for high, wide in SIZES:
        for most in (1, 9, HUGE):
            for number in (1, 2, 3, 5, 30):
                heap = [sparse(high, wide, most, seed) for seed in range(number)]
                yield heap
                yield [heap[0]] + heap + [heap[0]]
                yield [Picture(most, [[0] * wide] * high)] + heap + [Picture(most, [[0] * wide] * high)]


def due_of(heap):
    """The rows laid over and the numbers seen, cell by cell."""
    high, wide = len(heap[0].rows), len(heap[0].rows[0])
    rows, counts = [[0] * wide for row in range(high)], [0] * (len(heap) + 1)
    for row, column in by_rows(high, wide):
        shown = [number for number, picture in enumerate(heap) if picture.rows[row][column] > 0]
        counts[shown[-1] if shown else -1] += 1
        rows[row][column] = heap[shown[-1]].rows[row][column] if shown else 0
    return rows, counts


def paper_of(picture):
    return [(row, column) for row, shades in enumerate(picture.rows) for column, shade in enumerate(shades)
            if shade == 0]


class LaidOverTest(DotTest):
    def test_by_hand(self):
        heap = [Picture(9, [[1, 1, 0, 0]]), Picture(9, [[0, 2, 2, 0]]), Picture(9, [[0, 0, 3, 0]])]
        self.assert_picture(self.ask(laid_over, heap), 9, [[1, 2, 3, 0]])
        self.assertEqual(self.ask(seen_of, heap), [1, 1, 1, 1])
        self.assert_picture(self.ask(laid_over, heap[::-1]), 9, [[1, 1, 2, 0]])
        self.assertEqual(self.ask(seen_of, heap[::-1]), [0, 1, 2, 1])

    def test_cell_by_cell(self):
        for heap in heaps():
            rows, counts = due_of(heap)
            for handed in (heap, tuple(heap)):
                self.assert_picture(self.ask(laid_over, handed), heap[0].most, rows)
                self.assertEqual(self.ask(seen_of, handed), counts)

    def test_one_alone(self):
        for picture in (made(3, 4), numbered(2, 2), Picture(9, [[0]]), Picture(HUGE, [[HUGE]])):
            told = self.ask(laid_over, [picture])
            self.assert_same(told, picture)
            self.assertIsNot(told, picture)
            paper = len(paper_of(picture))
            self.assertEqual(self.ask(seen_of, [picture]), [len(sum(picture.rows, ())) - paper, paper])

    def test_one_of_them_twice(self):
        one, other = Picture(9, [[1, 0, 1]]), Picture(9, [[2, 2, 0]])
        self.assert_picture(laid_over([one, other, one]), 9, [[1, 2, 1]])
        self.assertEqual(seen_of([one, other, one]), [0, 1, 2, 0])
        self.assertEqual(seen_of([one, one]), [0, 2, 1])

    def test_paper_at_all_cells(self):
        paper = Picture(9, [[0] * 4] * 3)
        self.assert_same(laid_over([paper] * 3), paper)
        self.assertEqual(seen_of([paper] * 3), [0, 0, 0, 12])

    def test_thirty_of_sixty_four(self):
        heap = [sparse(64, 64, HUGE, seed) for seed in range(30)]
        rows, counts = due_of(heap)
        self.assert_picture(laid_over(heap), HUGE, rows)
        self.assertEqual(seen_of(heap), counts)

    def test_told_lists_changed_and_asked_again(self):
        heap = [sparse(3, 4, 9, seed) for seed in range(4)]
        self.assert_told_anew(seen_of, heap)
        self.assertIs(type(seen_of(heap)), list)
        told = laid_over(heap)
        due = plain(told)
        heap.clear()
        self.assert_equal(plain(told), due)

    def assert_no_meet(self, heap):
        for function in (laid_over, seen_of):
            self.assert_refused(NoMeet, function, heap)
            self.assert_refused(NoMeet, function, tuple(heap))

    def test_none_at_all(self):
        self.assert_no_meet([])

    def test_another_most_or_size_at_any_place(self):
        good = Picture(9, [[1, 0, 2], [0, 3, 4]])
        others = [Picture(8, good.rows), Picture(10, good.rows), Picture(HUGE, good.rows), made(3, 3), made(1, 3),
                  made(2, 4), made(2, 2), made(3, 2), made(1, 6), made(6, 1), made(1, 1)]
        for other in others:
            for number in (1, 2, 29):
                for place in {0, 1, number // 2, number}:
                    self.assert_no_meet([good] * place + [other] + [good] * (number - place))

    def test_a_refusal_leaves_the_pictures_usable(self):
        heap = [made(2, 3), made(2, 3, 9, 5), made(3, 2)]
        self.assert_no_meet(heap)
        self.assert_picture(laid_over(heap[:2]), 9, due_of(heap[:2])[0])


class FollowsTest(DotTest):
    def test_in_any_order_the_same_cells_are_paper(self):
        for high, wide in SIZES:
            heap = [sparse(high, wide, 9, seed) for seed in range(4)]
            due = paper_of(laid_over(heap))
            for order in itertools.permutations(heap):
                self.assert_equal(paper_of(self.ask(laid_over, order)), due)
                self.assertEqual(seen_of(order)[-1], len(due))

    def test_laying_over_what_was_laid_over_is_laying_all_over(self):
        for heap in heaps():
            whole = laid_over(heap)
            for place in range(1, len(heap), 1 + len(heap) // 6):
                self.assert_same(laid_over([laid_over(heap[:place])] + heap[place:]), whole)
                self.assert_same(laid_over(heap[:place] + [laid_over(heap[place:])]), whole)
                self.assert_same(laid_over([laid_over(heap[:place]), laid_over(heap[place:])]), whole)
            self.assert_same(laid_over([whole, whole]), whole)
            self.assertEqual(sum(seen_of(heap)), len(sum(whole.rows, ())))


class WithoutTest(DotTest):
    def assert_without(self, picture, mask):
        due = [[0 if (row, column) in mask else shade for column, shade in enumerate(shades)]
               for row, shades in enumerate(picture.rows)]
        for cells in (mask, tuple(mask)):
            told = self.ask(without_cells, picture, cells)
            self.assert_picture(told, picture.most, due)
            self.assertIsNot(told, picture)

    def test_none_some_some_twice_and_all(self):
        for size in SIZES:
            cells = by_rows(*size)
            for picture in (made(*size), numbered(*size), Picture(HUGE, [[HUGE] * size[1]] * size[0])):
                for mask in ([], cells[:1], cells[-1:], cells[::2], cells[::3] + cells[::2], cells, cells + cells,
                             cells[::-1]):
                    self.assert_without(picture, mask)

    def test_every_cell_alone(self):
        for cell in by_rows(3, 4):
            self.assert_without(Picture(9, [[9] * 4] * 3), [cell])

    def test_a_cell_that_is_not_there(self):
        picture = made(3, 4)
        good = [(0, 0), (2, 3), (1, 1)]
        for cell in ((-1, 0), (0, -1), (-1, -1), (-3, -4), (3, 0), (0, 4), (3, 4), (2, 4), (3, 3), (HUGE, 0), (0, HUGE),
                     (-HUGE, 0), (0, -HUGE), (ENDLESS, 1), (1, -ENDLESS)):
            self.assert_refused(OutOfPicture, without_cells, picture, [cell])
            for place in range(4):
                mask = good[:place] + [cell] + good[place:]
                self.assert_refused(OutOfPicture, without_cells, picture, mask)
                self.assert_refused(OutOfPicture, without_cells, picture, tuple(mask))

    def test_the_list_is_not_kept(self):
        picture, mask = made(3, 4, 9, 1), [(0, 0)]
        told = without_cells(picture, mask)
        due = plain(told)
        mask.append((1, 1))
        self.assert_equal(plain(told), due)
        self.assertNotEqual(plain(without_cells(picture, mask)), due)


if __name__ == "__main__":
    unittest.main()
