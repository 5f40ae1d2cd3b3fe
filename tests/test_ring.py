"""Points 11 to 14: boards and pits, sown, taken_back, gone_on."""

import unittest

from samples import (
    GREAT_BOARDS, MOST, NO_BOARDS, small_standings, sown_seed_by_seed, taken_back_seed_by_seed,
)
from sowring.errors import BadBoard, BadCount, BadPit, NoSeeds
from sowring.ring import gone_on, sown, taken_back


def great_standings():
    return [(board, pit) for board in GREAT_BOARDS for pit in range(len(board)) if board[pit] > 0]


class SownTest(unittest.TestCase):
    def test_a_sowing_that_stays_within_the_row(self):
        self.assertEqual(sown([0, 3, 1, 0, 5], 1), ([0, 0, 2, 1, 6], 4))

    def test_behind_the_last_pit_comes_pit_0(self):
        self.assertEqual(sown([1, 0, 2, 3], 3), ([2, 1, 3, 0], 2))

    def test_a_single_seed(self):
        self.assertEqual(sown([1, 0], 0), ([0, 1], 1))
        self.assertEqual(sown([0, 1], 1), ([1, 0], 0))

    def test_the_pit_itself_gets_one_each_time_it_is_come_to(self):
        self.assertEqual(sown([3, 0, 0], 0), ([1, 1, 1], 0))
        self.assertEqual(sown([4, 0, 0], 0), ([1, 2, 1], 1))
        self.assertEqual(sown([1, 8, 2], 1), ([4, 2, 5], 0))
        self.assertEqual(sown([1, 9, 2], 1), ([4, 3, 5], 1))
        self.assertEqual(sown([7, 0], 0), ([3, 4], 1))

    def test_all_small_standings_seed_by_seed(self):
        for board, pit in small_standings():
            self.assertEqual(sown(board, pit), sown_seed_by_seed(board, pit), (board, pit))

    def test_24_pits_seed_by_seed(self):
        board = [(7 * place * place) % 61 for place in range(24)]
        for pit in range(24):
            if board[pit] > 0:
                self.assertEqual(sown(board, pit), sown_seed_by_seed(board, pit))
        board[5] = 1000
        self.assertEqual(sown(board, 5), sown_seed_by_seed(board, 5))

    def test_just_10_to_the_60_seeds(self):
        each = (MOST - 16) // 24
        self.assertEqual(each * 24 + 16, MOST)
        self.assertEqual(sown([0] * 23 + [MOST], 23), ([each + 1] * 16 + [each] * 8, 15))
        self.assertEqual(sown([MOST, 0], 0), ([MOST // 2, MOST // 2], 0))
        self.assertEqual(sown([1, MOST - 1], 1), ([1 + MOST // 2, MOST // 2 - 1], 0))

    def test_the_answer_is_a_pair_of_a_list_and_a_number(self):
        answer = sown([2, 1], 0)
        self.assertIs(type(answer), tuple)
        self.assertIs(type(answer[0]), list)
        self.assertIs(type(answer[1]), int)


class TakenBackTest(unittest.TestCase):
    def test_until_a_pit_without_seeds(self):
        self.assertEqual(taken_back([0, 0, 2, 1, 6], 4), ([0, 3, 1, 0, 5], 1))

    def test_ahead_of_pit_0_goes_on_with_the_last_pit(self):
        self.assertEqual(taken_back([2, 1, 3, 0], 2), ([1, 0, 2, 3], 3))

    def test_ends_at_the_very_pit_one_began_at(self):
        self.assertEqual(taken_back([1, 1, 1], 0), ([3, 0, 0], 0))
        self.assertEqual(taken_back([5, 2, 4], 1), ([3, 6, 2], 1))
        self.assertEqual(taken_back([2, 2], 1), ([0, 4], 1))
        self.assertEqual(taken_back([10 ** 30] * 24, 7), ([0] * 7 + [24 * 10 ** 30] + [0] * 16, 7))

    def test_some_rounds_and_then_another_pit(self):
        self.assertEqual(taken_back([4, 2, 5], 0), ([1, 8, 2], 1))
        self.assertEqual(taken_back([4, 3, 2], 1), ([1, 0, 8], 2))

    def test_of_several_poorest_pits_the_first_one_come_to(self):
        self.assertEqual(taken_back([1, 3, 1, 3, 3], 4), ([0, 2, 7, 1, 1], 2))
        self.assertEqual(taken_back([0, 3, 0, 3, 3], 1), ([1, 2, 0, 3, 3], 0))

    def test_all_small_standings_seed_by_seed(self):
        for board, pit in small_standings():
            self.assertEqual(taken_back(board, pit), taken_back_seed_by_seed(board, pit), (board, pit))

    def test_24_pits_seed_by_seed(self):
        board = [40 + (7 * place * place) % 61 for place in range(24)]
        for pit in range(24):
            self.assertEqual(taken_back(board, pit), taken_back_seed_by_seed(board, pit))

    def test_just_10_to_the_60_seeds(self):
        each = (MOST - 16) // 24
        self.assertEqual(taken_back([each + 1] * 16 + [each] * 8, 15), ([0] * 23 + [MOST], 23))
        self.assertEqual(taken_back([MOST // 2, MOST // 2], 0), ([MOST, 0], 0))
        self.assertEqual(taken_back([0, MOST], 1), ([1, MOST - 1], 0))

    def test_the_answer_is_a_pair_of_a_list_and_a_number(self):
        answer = taken_back([2, 1], 0)
        self.assertIs(type(answer), tuple)
        self.assertIs(type(answer[0]), list)
        self.assertIs(type(answer[1]), int)


class UndoneTest(unittest.TestCase):
    def test_taking_back_undoes_sowing(self):
        for board, pit in small_standings() + great_standings():
            other, last = sown(board, pit)
            self.assertEqual(taken_back(other, last), (board, pit))

    def test_sowing_undoes_taking_back(self):
        for board, pit in small_standings() + great_standings():
            other, place = taken_back(board, pit)
            self.assertEqual(sown(other, place), (board, pit))

    def test_no_seed_is_lost(self):
        for board, pit in great_standings():
            for answer in (sown(board, pit), taken_back(board, pit)):
                self.assertEqual(sum(answer[0]), sum(board))
                self.assertEqual(len(answer[0]), len(board))


class GoneOnTest(unittest.TestCase):
    def test_a_few_goings_on(self):
        self.assertEqual(gone_on([2, 0, 1], 0, 1), ([0, 1, 2], 2))
        self.assertEqual(gone_on([2, 0, 1], 0, 2), ([1, 2, 0], 1))
        self.assertEqual(gone_on([2, 0, 1], 0, 3), ([2, 0, 1], 0))

    def test_a_few_goings_back(self):
        self.assertEqual(gone_on([2, 0, 1], 0, -1), ([1, 2, 0], 1))
        self.assertEqual(gone_on([0, 1, 2], 2, -1), ([2, 0, 1], 0))
        self.assertEqual(gone_on([4, 0, 0], 0, -1), ([3, 0, 1], 2))

    def test_nought_leaves_the_standing(self):
        for board, pit in [([2, 0, 1], 0), ([0, 1], 1), ([0] * 23 + [MOST], 23)]:
            self.assertEqual(gone_on(board, pit, 0), (board, pit))

    def test_small_standings_step_by_step_both_ways(self):
        for board, pit in small_standings()[::7]:
            ahead = (board, pit)
            back = (board, pit)
            for steps in range(1, 12):
                ahead = sown_seed_by_seed(*ahead)
                back = taken_back_seed_by_seed(*back)
                self.assertEqual(gone_on(board, pit, steps), ahead)
                self.assertEqual(gone_on(board, pit, -steps), back)

    def test_1000_goings_on_and_back(self):
        for board, pit in [([5, 0, 9, 2, 2, 1, 0, 8], 2)] + great_standings()[::9]:
            ahead = (board, pit)
            back = (board, pit)
            for step in range(1000):
                ahead = sown(*ahead)
                back = taken_back(*back)
            self.assertEqual(gone_on(board, pit, 1000), ahead)
            self.assertEqual(gone_on(board, pit, -1000), back)
            self.assertEqual(gone_on(ahead[0], ahead[1], -1000), (board, pit))
            self.assertEqual(gone_on(back[0], back[1], 1000), (board, pit))

    def test_the_answer_is_a_pair_of_a_list_and_a_number(self):
        for steps in (-1, 0, 1):
            answer = gone_on([2, 1], 0, steps)
            self.assertIs(type(answer), tuple)
            self.assertIs(type(answer[0]), list)
            self.assertIs(type(answer[1]), int)

    def test_beyond_1000_is_refused(self):
        for steps in (1001, -1001, 1002, 10 ** 69, -(10 ** 69)):
            with self.assertRaises(BadCount) as caught:
                gone_on([2, 1], 0, steps)
            self.assertEqual(caught.exception.called(), "BadCount")


def gone_on_once(board, pit):
    return gone_on(board, pit, 1)


class RefusalsTest(unittest.TestCase):
    functions = (sown, taken_back, gone_on_once)

    def assert_refused(self, kind, *asked):
        for function in self.functions:
            with self.subTest(function=function.__name__, asked=asked):
                with self.assertRaises(kind) as caught:
                    function(*asked)
                self.assertIs(type(caught.exception), kind)
                self.assertEqual(caught.exception.called(), kind.__name__)

    def test_lists_that_are_no_boards(self):
        for board in NO_BOARDS:
            self.assert_refused(BadBoard, board, 0)

    def test_numbers_that_are_no_pits(self):
        for board in ([1, 1], [1, 2, 3], [1] * 24):
            for pit in (-1, -2, -len(board), len(board), len(board) + 1, 10 ** 69, -(10 ** 69)):
                self.assert_refused(BadPit, board, pit)

    def test_pits_without_seeds(self):
        self.assert_refused(NoSeeds, [0, 4], 0)
        self.assert_refused(NoSeeds, [4, 0], 1)
        self.assert_refused(NoSeeds, [0] * 24, 23)
        self.assert_refused(NoSeeds, [0, 0], 0)
        self.assert_refused(NoSeeds, [MOST, 0, 0], 2)

    def test_a_board_that_is_none_goes_ahead_of_all_else(self):
        for board in NO_BOARDS:
            for pit in (-1, 30):
                self.assert_refused(BadBoard, board, pit)
            with self.assertRaises(BadBoard):
                gone_on(board, 0, 1001)
            with self.assertRaises(BadBoard):
                gone_on(board, 99, -1001)
        self.assert_refused(BadBoard, [0, -1], 0)

    def test_no_pit_goes_ahead_of_a_bad_count(self):
        for steps in (1001, -1001):
            with self.assertRaises(BadPit):
                gone_on([1, 1], 2, steps)
            with self.assertRaises(BadPit):
                gone_on([1, 0], -1, steps)

    def test_no_seeds_go_ahead_of_a_bad_count(self):
        for steps in (1001, -1001):
            with self.assertRaises(NoSeeds):
                gone_on([1, 0], 1, steps)

    def test_a_pit_without_seeds_is_no_standing_for_nought_and_below_either(self):
        for steps in (0, -1, -1000):
            with self.assertRaises(NoSeeds):
                gone_on([1, 0], 1, steps)
            with self.assertRaises(BadPit):
                gone_on([1, 0], 2, steps)

    def test_the_least_and_the_greatest_boards_are_taken(self):
        self.assertEqual(sown([0, 1], 1), ([1, 0], 0))
        self.assertEqual(sown([1] * 24, 23), ([2] + [1] * 22 + [0], 0))
        self.assertEqual(taken_back([0, 1], 1), ([1, 0], 0))
        self.assertEqual(taken_back([0] + [1] * 23, 23), ([23] + [0] * 23, 0))


if __name__ == "__main__":
    unittest.main()
