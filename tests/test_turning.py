"""Point 22: boards turned."""

import unittest

from samples import GREAT_BOARDS, MOST, NO_BOARDS, all_turns, small_boards
from sowring.errors import BadBoard
from sowring.turning import least_turn, own_turn, turned


def turned_by_one(board):
    return turned(board, 1)


class TurnedTest(unittest.TestCase):
    def test_pit_x_goes_to_the_pit_k_behind_it(self):
        self.assertEqual(turned([5, 6, 7, 8], 1), [8, 5, 6, 7])
        self.assertEqual(turned([5, 6, 7, 8], 3), [6, 7, 8, 5])
        self.assertEqual(turned([5, 6, 7, 8], -1), [6, 7, 8, 5])
        self.assertEqual(turned([5, 6, 7, 8], -6), [7, 8, 5, 6])

    def test_whole_rounds_leave_the_board(self):
        for k in (0, 4, -4, 8, 4 * 10 ** 68, -4 * 10 ** 68):
            self.assertEqual(turned([5, 6, 7, 8], k), [5, 6, 7, 8])

    def test_all_turns_of_small_and_great_boards(self):
        for board in small_boards() + GREAT_BOARDS:
            turns = all_turns(board)
            for k in range(-2 * len(board), 2 * len(board) + 1):
                self.assertEqual(turned(board, k), turns[k % len(board)])

    def test_turns_of_70_figures(self):
        board = list(range(24))
        for k in (10 ** 70 - 1, -(10 ** 70 - 1), 10 ** 69 + 5, -(10 ** 69) - 5):
            other = turned(board, k)
            for place in range(24):
                self.assertEqual(other[(place + k) % 24], board[place])
        self.assertEqual(turned([1, 2, 3], 10 ** 69), [3, 1, 2])
        self.assertEqual(turned([1, 2, 3], -(10 ** 69)), [2, 3, 1])


class LeastTurnTest(unittest.TestCase):
    def test_the_least_board_and_the_least_turn_to_it(self):
        self.assertEqual(least_turn([3, 1, 2]), ([1, 2, 3], 2))
        self.assertEqual(least_turn([1, 2, 3]), ([1, 2, 3], 0))
        self.assertEqual(least_turn([2, 3, 1]), ([1, 2, 3], 1))
        self.assertEqual(least_turn([1, 0]), ([0, 1], 1))

    def test_boards_that_come_again_by_less_than_the_whole_ring(self):
        self.assertEqual(least_turn([2, 1, 2, 1]), ([1, 2, 1, 2], 1))
        self.assertEqual(least_turn([1, 2, 1, 2]), ([1, 2, 1, 2], 0))
        self.assertEqual(least_turn([0, 0, 0]), ([0, 0, 0], 0))
        self.assertEqual(least_turn([7] * 24), ([7] * 24, 0))
        self.assertEqual(least_turn([1, 2, 0] * 8), ([0, 1, 2] * 8, 1))

    def test_all_small_and_great_boards(self):
        for board in small_boards() + GREAT_BOARDS:
            turns = all_turns(board)
            least = min(turns)
            self.assertEqual(least_turn(board), (least, turns.index(least)))

    def test_the_answer_is_a_pair_of_a_list_and_a_number(self):
        answer = least_turn([2, 1])
        self.assertIs(type(answer), tuple)
        self.assertIs(type(answer[0]), list)
        self.assertIs(type(answer[1]), int)


class OwnTurnTest(unittest.TestCase):
    def test_boards_that_come_again_by_the_whole_ring_alone(self):
        self.assertEqual(own_turn([0, 1]), 2)
        self.assertEqual(own_turn([1, 2, 1]), 3)
        self.assertEqual(own_turn([MOST] + [0] * 23), 24)

    def test_boards_that_come_again_by_less(self):
        self.assertEqual(own_turn([4, 4]), 1)
        self.assertEqual(own_turn([0] * 24), 1)
        self.assertEqual(own_turn([1, 2, 1, 2]), 2)
        self.assertEqual(own_turn([1, 2, 3] * 8), 3)
        self.assertEqual(own_turn(([10 ** 58] + [0] * 11) * 2), 12)

    def test_all_small_and_great_boards(self):
        for board in small_boards() + GREAT_BOARDS:
            turns = all_turns(board) + [board]
            self.assertEqual(own_turn(board), turns.index(board, 1))


class RefusalsTest(unittest.TestCase):
    def test_lists_that_are_no_boards(self):
        for function in (turned_by_one, least_turn, own_turn):
            for board in NO_BOARDS:
                with self.subTest(function=function.__name__, board=board):
                    with self.assertRaises(BadBoard) as caught:
                        function(board)
                    self.assertEqual(caught.exception.called(), "BadBoard")


if __name__ == "__main__":
    unittest.main()
