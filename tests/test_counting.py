"""Point 21 and ring_count of point 22: boards and rings counted, boards in order."""

import math
import unittest

from samples import BAD_SIZES, GREAT_BOARDS, GREAT_SIZES, MOST, NO_BOARDS, all_boards, all_turns, small_boards
from sowring.counting import board_at, board_count, next_board, number_of, ring_count
from sowring.errors import BadBoard, BadCount


def rings_by_comb(pits, seeds):
    kept = 0
    for k in range(pits):
        times = pits // math.gcd(pits, k)
        if seeds % times == 0:
            kept += math.comb(seeds // times + pits // times - 1, pits // times - 1)
    return kept // pits


class BoardCountTest(unittest.TestCase):
    def test_known_counts(self):
        self.assertEqual(board_count(2, 3), 4)
        self.assertEqual(board_count(3, 2), 6)
        self.assertEqual(board_count(4, 4), 35)
        self.assertEqual(board_count(24, 1), 24)
        self.assertEqual(board_count(24, 2), 300)

    def test_no_seeds_make_one_board(self):
        for pits in range(2, 25):
            self.assertEqual(board_count(pits, 0), 1)

    def test_all_small_sizes(self):
        for pits in range(2, 7):
            for seeds in range(9):
                self.assertEqual(board_count(pits, seeds), len(all_boards(pits, seeds)))

    def test_great_sizes(self):
        self.assertEqual(board_count(2, MOST), MOST + 1)
        self.assertEqual(board_count(3, MOST), (MOST + 2) * (MOST + 1) // 2)
        for pits, seeds in GREAT_SIZES:
            self.assertEqual(board_count(pits, seeds), math.comb(seeds + pits - 1, pits - 1))

    def test_sizes_out_of_bounds_are_refused(self):
        for function in (board_count, ring_count):
            for pits, seeds in BAD_SIZES:
                with self.subTest(function=function.__name__, pits=pits, seeds=seeds):
                    with self.assertRaises(BadCount) as caught:
                        function(pits, seeds)
                    self.assertEqual(caught.exception.called(), "BadCount")


class OrderTest(unittest.TestCase):
    def test_all_boards_of_small_sizes_in_order(self):
        for pits in range(2, 6):
            for seeds in range(8):
                boards = all_boards(pits, seeds)
                for number, board in enumerate(boards):
                    self.assertEqual(board_at(pits, seeds, number), board)
                    self.assertEqual(number_of(board), number)
                    behind = boards[number + 1] if number + 1 < len(boards) else None
                    self.assertEqual(next_board(board), behind)

    def test_24_pits_in_order(self):
        boards = all_boards(24, 2)
        self.assertEqual([board_at(24, 2, number) for number in range(300)], boards)
        self.assertEqual([number_of(board) for board in boards], list(range(300)))
        self.assertEqual([next_board(board) for board in boards], boards[1:] + [None])

    def test_the_first_and_the_last_board(self):
        for pits, seeds in [(2, 1), (3, 5), (24, 7)] + GREAT_SIZES:
            first = [0] * (pits - 1) + [seeds]
            last = [seeds] + [0] * (pits - 1)
            most = math.comb(seeds + pits - 1, pits - 1) - 1
            self.assertEqual(board_at(pits, seeds, 0), first)
            self.assertEqual(board_at(pits, seeds, most), last)
            self.assertEqual(number_of(first), 0)
            self.assertEqual(number_of(last), most)
            self.assertIsNone(next_board(last))
            self.assertEqual(next_board(first), [0] * (pits - 2) + [1, seeds - 1])

    def test_the_one_board_of_no_seeds(self):
        for pits in (2, 3, 24):
            self.assertEqual(board_at(pits, 0, 0), [0] * pits)
            self.assertEqual(number_of([0] * pits), 0)
            self.assertIsNone(next_board([0] * pits))

    def test_great_numbers_of_two_and_three_pits(self):
        seeds = MOST
        for first in (0, 1, 10 ** 59 + 3, MOST // 2, MOST - 2):
            self.assertEqual(number_of([first, seeds - first]), first)
            self.assertEqual(board_at(2, seeds, first), [first, seeds - first])
            for second in (0, 1, 2):
                board = [first, second, seeds - first - second]
                number = first * (seeds + 1) - first * (first - 1) // 2 + second
                self.assertEqual(number_of(board), number)
                self.assertEqual(board_at(3, seeds, number), board)

    def test_great_boards_have_their_numbers(self):
        for board in GREAT_BOARDS:
            number = number_of(board)
            self.assertEqual(board_at(len(board), sum(board), number), board)
            behind = next_board(board)
            if behind is None:
                self.assertEqual(number, board_count(len(board), sum(board)) - 1)
            else:
                self.assertGreater(behind, board)
                self.assertEqual(number_of(behind), number + 1)
                self.assertEqual(board_at(len(board), sum(board), number + 1), behind)

    def test_great_numbers_have_their_boards(self):
        for pits, seeds in GREAT_SIZES:
            count = math.comb(seeds + pits - 1, pits - 1)
            for number in (1, count // 7, count // 2, 2 * count // 3 + 1, count - 2):
                board = board_at(pits, seeds, number)
                self.assertEqual((len(board), sum(board)), (pits, seeds))
                self.assertGreaterEqual(min(board), 0)
                self.assertEqual(number_of(board), number)

    def test_next_board_puts_the_rest_into_the_last_pit(self):
        self.assertEqual(next_board([1, 4, 0, 0]), [2, 0, 0, 3])
        self.assertEqual(next_board([0, 0, 3, 2]), [0, 0, 4, 1])
        self.assertEqual(next_board([0, MOST, 0]), [1, 0, MOST - 1])

    def test_numbers_of_no_board_are_refused(self):
        for pits, seeds in [(2, 0), (2, 3), (3, 5), (24, 0), (24, 2), (24, MOST)]:
            count = math.comb(seeds + pits - 1, pits - 1)
            for number in (-1, -count, count, count + 1, 10 ** 3000):
                with self.assertRaises(BadCount) as caught:
                    board_at(pits, seeds, number)
                self.assertEqual(caught.exception.called(), "BadCount")

    def test_board_at_refuses_sizes_out_of_bounds(self):
        for pits, seeds in BAD_SIZES:
            with self.assertRaises(BadCount):
                board_at(pits, seeds, 0)

    def test_lists_that_are_no_boards_are_refused(self):
        for function in (number_of, next_board):
            for board in NO_BOARDS:
                with self.subTest(function=function.__name__, board=board):
                    with self.assertRaises(BadBoard) as caught:
                        function(board)
                    self.assertEqual(caught.exception.called(), "BadBoard")


class RingCountTest(unittest.TestCase):
    def test_known_counts(self):
        self.assertEqual(ring_count(2, 4), 3)
        self.assertEqual(ring_count(3, 3), 4)
        self.assertEqual(ring_count(4, 2), 3)
        self.assertEqual(ring_count(24, 1), 1)
        self.assertEqual(ring_count(24, 2), 13)

    def test_no_seeds_make_one_ring(self):
        for pits in range(2, 25):
            self.assertEqual(ring_count(pits, 0), 1)

    def test_all_small_sizes(self):
        rings = {}
        for board in small_boards() + all_boards(6, 6) + all_boards(6, 9) + all_boards(8, 4) + all_boards(9, 6):
            size = (len(board), sum(board))
            rings.setdefault(size, set()).add(tuple(min(all_turns(board))))
        for (pits, seeds), least in rings.items():
            self.assertEqual(ring_count(pits, seeds), len(least), (pits, seeds))

    def test_great_sizes(self):
        self.assertEqual(ring_count(2, MOST), MOST // 2 + 1)
        self.assertEqual(ring_count(2, MOST - 1), MOST // 2)
        self.assertEqual(ring_count(5, MOST), (math.comb(MOST + 4, 4) + 4) // 5)
        self.assertEqual(ring_count(23, MOST), math.comb(MOST + 22, 22) // 23)
        for pits, seeds in GREAT_SIZES:
            self.assertEqual(ring_count(pits, seeds), rings_by_comb(pits, seeds))


if __name__ == "__main__":
    unittest.main()
