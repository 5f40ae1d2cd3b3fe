"""Points 41 to 43: plans walked, seeds gathered, ways from board to board."""

import unittest

from samples import (
    GREAT_BOARDS, MOST, NO_BOARDS, all_boards, assert_refused, no_pits, small_boards, sown_seed_by_seed,
    taken_back_seed_by_seed,
)
from sowring.errors import BadBoard, BadPit, BadPlan, TooMany, Unlike
from sowring.ring import sown, taken_back
from sowring.ways import gathered, walked, way_to

BOARDS_OF_60 = [
    [60] + [0] * 23,
    [0] * 23 + [60],
    [0] * 11 + [60] + [0] * 12,
    [60, 0],
    [0, 60],
    [30, 30],
    [20, 20, 20],
    [2, 3] * 12,
    [(7 * place) % 6 for place in range(24)],
    [59] + [0] * 22 + [1],
    [0, 0, 0, 15, 15, 15, 15, 0, 0, 0],
]


def spread_60(pits, step):
    board = [0] * pits
    for seed in range(60):
        board[(seed * step + seed * seed // 7) % pits] += 1
    return board


def walked_seed_by_seed(board, plan):
    for word, pit in plan:
        board = {"sow": sown_seed_by_seed, "back": taken_back_seed_by_seed}[word](board, pit)[0]
    return board


class WalkedTest(unittest.TestCase):
    def test_deeds_one_behind_another(self):
        self.assertEqual(walked([2, 0, 1], [("sow", 0)]), [0, 1, 2])
        self.assertEqual(walked([2, 0, 1], [("sow", 0), ("sow", 2)]), [1, 2, 0])
        self.assertEqual(walked([2, 0, 1], [("sow", 0), ("back", 2)]), [2, 0, 1])
        self.assertEqual(walked([0, 0, 2, 1, 6], [("back", 4), ("sow", 4), ("back", 0)]), [5, 3, 1, 0, 0])

    def test_the_empty_plan_leaves_the_board(self):
        for board in [[2, 0, 1], [0, 0], [MOST] + [0] * 23]:
            self.assertEqual(walked(board, []), board)

    def test_a_plan_that_leads_from_a_board_to_itself(self):
        self.assertEqual(walked([2, 0, 1], [("sow", 0), ("sow", 2), ("sow", 1)]), [2, 0, 1])

    def test_a_pit_that_gets_its_seeds_on_the_way(self):
        self.assertEqual(walked([1, 0, 0], [("sow", 0), ("sow", 1), ("sow", 2), ("back", 0)]), [0, 0, 1])

    def test_long_plans_seed_by_seed(self):
        board = [3, 0, 5, 2, 0, 4]
        plan = []
        now = board
        for step in range(200):
            held = [pit for pit in range(6) if now[pit] > 0]
            deed = ("sow" if step % 3 else "back", held[(step * 7) % len(held)])
            plan.append(deed)
            now = walked_seed_by_seed(now, [deed])
        self.assertEqual(walked(board, plan), now)

    def test_great_boards(self):
        for board in GREAT_BOARDS:
            held = [pit for pit in range(len(board)) if board[pit] > 0]
            for pit in held:
                self.assertEqual(walked(board, [("sow", pit)]), sown(board, pit)[0])
                self.assertEqual(walked(board, [("back", pit)]), taken_back(board, pit)[0])

    def assert_bad_at(self, place, board, plan):
        refusal = assert_refused(self, BadPlan, walked, board, plan)
        self.assertEqual(refusal.at, place)
        self.assertIs(type(refusal.at), int)

    def test_a_deed_that_cannot_be_done_at_any_place(self):
        for bad in [("take", 0), ("Sow", 0), ("", 0), ("sow ", 0), ("sowback", 0), ("BACK", 0), ("sow", -1), ("sow", 3),
                    ("back", -1), ("back", 3), ("sow", 10 ** 69), ("back", -(10 ** 69)), ("home", 9)]:
            self.assert_bad_at(0, [2, 0, 1], [bad])
            self.assert_bad_at(0, [2, 0, 1], [bad, ("sow", 0)])
            self.assert_bad_at(1, [2, 0, 1], [("sow", 0), bad, ("sow", 2)])
            self.assert_bad_at(2, [2, 0, 1], [("sow", 0), ("sow", 2), bad])

    def test_a_pit_without_seeds_just_then(self):
        for word in ("sow", "back"):
            self.assert_bad_at(0, [2, 0, 1], [(word, 1)])
            self.assert_bad_at(1, [2, 0, 1], [("sow", 0), (word, 0)])
            self.assert_bad_at(2, [2, 0, 1], [("sow", 0), ("sow", 2), (word, 2)])
            self.assert_bad_at(0, [0, 0], [(word, 1)])

    def test_the_first_of_several_is_told(self):
        self.assert_bad_at(1, [2, 0, 1], [("sow", 0), ("sow", 0), ("take", 0)])
        self.assert_bad_at(0, [2, 0, 1], [("sow", 1), ("take", 0), ("sow", 5)])

    def test_far_behind(self):
        plan = [("sow", 0), ("sow", 1)] * 500
        self.assertEqual(walked([1, 0], plan), [1, 0])
        self.assert_bad_at(1000, [1, 0], plan + [("sow", 1)])

    def test_a_board_that_is_none_goes_ahead(self):
        for board in NO_BOARDS:
            assert_refused(self, BadBoard, walked, board, [])
            assert_refused(self, BadBoard, walked, board, [("sow", 99)])


class GatheredTest(unittest.TestCase):
    def assert_gathers(self, board, pit):
        plan = gathered(board, pit)
        self.assertIs(type(plan), list)
        for deed in plan:
            self.assertIs(type(deed), tuple)
            self.assertEqual(deed[0], "sow")
            self.assertNotEqual(deed[1], pit)
        wanted = [0] * len(board)
        wanted[pit] = sum(board)
        self.assertEqual(walked_seed_by_seed(board, plan), wanted)
        self.assertEqual(walked(board, plan), wanted)

    def test_all_small_boards(self):
        for board in small_boards()[::2]:
            for pit in range(len(board)):
                self.assert_gathers(board, pit)

    def test_60_seeds(self):
        for board in BOARDS_OF_60:
            for pit in sorted({0, 1, len(board) // 2, len(board) - 1}):
                self.assert_gathers(board, pit)

    def test_all_numbers_of_pits(self):
        for pits in range(2, 25):
            self.assert_gathers(spread_60(pits, 5), pits // 3)

    def test_nothing_to_gather(self):
        self.assertEqual(gathered([0, 0], 1), [])
        self.assertEqual(gathered([0, 60, 0], 1), [])
        self.assertEqual(gathered([0] * 24, 23), [])

    def test_61_seeds_and_more(self):
        for board in ([61, 0], [0, 61], [31, 30], [60] + [0] * 22 + [1], [3] * 24, [MOST, 0], [0, 0, MOST]):
            for pit in (0, len(board) - 1):
                assert_refused(self, TooMany, gathered, board, pit)

    def test_numbers_that_are_no_pits(self):
        for board in ([1, 1], [0, 0, 0], [1] * 24, [61, 0], [MOST, 0, 0]):
            for pit in no_pits(board):
                assert_refused(self, BadPit, gathered, board, pit)

    def test_a_board_that_is_none_goes_ahead(self):
        for board in NO_BOARDS:
            assert_refused(self, BadBoard, gathered, board, 0)
            assert_refused(self, BadBoard, gathered, board, 99)


class WayToTest(unittest.TestCase):
    def assert_leads(self, board, other):
        plan = way_to(board, other)
        self.assertIs(type(plan), list)
        for deed in plan:
            self.assertIs(type(deed), tuple)
            self.assertIn(deed[0], ("sow", "back"))
        self.assertEqual(walked_seed_by_seed(board, plan), other)
        self.assertEqual(walked(board, plan), other)

    def test_each_small_board_leads_to_each_other(self):
        for pits, seeds in [(2, 0), (2, 1), (2, 5), (3, 3), (3, 4), (4, 3), (5, 2)]:
            boards = all_boards(pits, seeds)
            for board in boards:
                for other in boards:
                    self.assert_leads(board, other)

    def test_60_seeds(self):
        for pits in (2, 3, 7, 23, 24):
            boards = [[60] + [0] * (pits - 1), [0] * (pits - 1) + [60], spread_60(pits, 3), spread_60(pits, 5)]
            for board in boards:
                for other in boards:
                    self.assert_leads(board, other)

    def test_boards_of_other_pits_or_seeds(self):
        for board, other in [
            ([1, 1], [1, 1, 0]), ([1, 1], [1, 0]), ([1, 1], [1, 2]), ([0, 0], [0, 1]), ([60, 0], [61, 0]),
            ([61, 0], [60, 0]), ([61, 0], [61, 0, 0]), ([61, 0], [62, 0]), ([0, 0], [0] * 24), ([MOST, 0], [1, 1]),
        ]:
            assert_refused(self, Unlike, way_to, board, other)
            assert_refused(self, Unlike, way_to, other, board)

    def test_61_seeds_and_more(self):
        for board in ([61, 0], [31, 30, 0], [3] * 24, [MOST, 0]):
            assert_refused(self, TooMany, way_to, board, board)
            assert_refused(self, TooMany, way_to, board, board[::-1])

    def test_a_board_that_is_none_goes_ahead(self):
        for board in NO_BOARDS:
            for other in ([1, 1], [61, 0], [1, 1, 1]):
                assert_refused(self, BadBoard, way_to, board, other)
                assert_refused(self, BadBoard, way_to, other, board)
            assert_refused(self, BadBoard, way_to, board, board)


if __name__ == "__main__":
    unittest.main()
