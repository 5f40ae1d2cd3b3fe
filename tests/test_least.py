"""Point 44: ways of as few sowings as can be."""

import unittest

from samples import MOST, NO_BOARDS, all_boards, assert_refused, reached_seed_by_seed, sown_seed_by_seed
from sowring.counting import board_count
from sowring.errors import BadBoard, TooMany, Unlike
from sowring.least import least_way


class LeastWayTest(unittest.TestCase):
    def assert_least(self, board, other, fewest):
        plan, levels = least_way(board, other)
        self.assertEqual(len(plan), fewest[tuple(other)])
        now = board
        for word, pit in plan:
            self.assertEqual(word, "sow")
            self.assertGreater(now[pit], 0)
            now = sown_seed_by_seed(now, pit)[0]
        self.assertEqual(now, other)
        wanted = [[] for step in range(len(plan) + 1)]
        for found in sorted(fewest):
            if fewest[found] <= len(plan):
                wanted[fewest[found]].append(list(found))
        self.assertEqual(levels, wanted)

    def test_known_ways(self):
        self.assertEqual(least_way([2, 0, 1], [0, 1, 2]), ([("sow", 0)], [[[2, 0, 1]], [[0, 1, 2], [3, 0, 0]]]))
        self.assertEqual(least_way([1, 0], [0, 1]), ([("sow", 0)], [[[1, 0]], [[0, 1]]]))

    def test_each_small_board_to_each_other(self):
        for pits, seeds in [(2, 1), (2, 7), (3, 3), (3, 5), (4, 3), (5, 2)]:
            for board in all_boards(pits, seeds):
                fewest = reached_seed_by_seed(board)
                self.assertEqual(len(fewest), board_count(pits, seeds))
                for other in all_boards(pits, seeds):
                    self.assert_least(board, other, fewest)

    def test_from_a_board_to_itself(self):
        for board in ([1, 0], [0, 0], [0] * 24, [3, 0, 4], [999, 0]):
            self.assertEqual(least_way(board, list(board)), ([], [[board]]))

    def test_many_boards(self):
        for pits, seeds, step in [(2, 999, 97), (3, 43, 131), (4, 16, 200), (10, 4, 190), (24, 2, 70)]:
            boards = all_boards(pits, seeds)
            for board in (boards[0], boards[len(boards) // 3]):
                fewest = reached_seed_by_seed(board)
                self.assertEqual(len(fewest), len(boards))
                for other in boards[::step]:
                    self.assert_least(board, other, fewest)

    def test_all_levels_of_the_farthest_board(self):
        board = [16, 0, 0, 0]
        fewest = reached_seed_by_seed(board)
        farthest = max(fewest.values())
        others = sorted([found for found in fewest if fewest[found] == farthest])
        plan, levels = least_way(board, list(others[-1]))
        self.assertEqual(len(plan), farthest)
        self.assertEqual(sum([len(level) for level in levels]), 969)
        self.assertEqual(levels[-1], [list(found) for found in others])

    def test_the_answer_is_a_pair_of_lists(self):
        answer = least_way([2, 0, 1], [0, 1, 2])
        self.assertIs(type(answer), tuple)
        self.assertEqual([type(part) for part in answer], [list, list])
        self.assertIs(type(answer[0][0]), tuple)
        self.assertIs(type(answer[1][0]), list)
        self.assertIs(type(answer[1][0][0]), list)

    def test_just_1000_boards_and_more(self):
        self.assertEqual(board_count(2, 999), 1000)
        self.assertEqual(least_way([999, 0], [499, 500])[0], [("sow", 0)])
        for board in ([1000, 0], [500, 500], [44, 0, 0], [17, 0, 0, 0], [3] + [0] * 23, [MOST, 0], [MOST] + [0] * 23):
            assert_refused(self, TooMany, least_way, board, board)
            assert_refused(self, TooMany, least_way, board, board[::-1])

    def test_boards_of_other_pits_or_seeds(self):
        for board, other in [
            ([1, 1], [1, 1, 0]), ([1, 1], [1, 0]), ([0, 0], [0, 1]), ([999, 0], [1000, 0]), ([1000, 0], [1001, 0]),
            ([MOST, 0], [MOST, 0, 0]), ([0, 0], [0] * 24), ([44, 0, 0], [44, 0]),
        ]:
            assert_refused(self, Unlike, least_way, board, other)
            assert_refused(self, Unlike, least_way, other, board)

    def test_a_board_that_is_none_goes_ahead(self):
        for board in NO_BOARDS:
            for other in ([1, 1], [1000, 0], [1, 1, 1]):
                assert_refused(self, BadBoard, least_way, board, other)
                assert_refused(self, BadBoard, least_way, other, board)
            assert_refused(self, BadBoard, least_way, board, board)


if __name__ == "__main__":
    unittest.main()
