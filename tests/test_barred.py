"""Points 51 to 54: what can be come to where pits are barred."""

import unittest

from samples import (
    GREATER_PLAYS, MANY_BOARDS, MOST, NO_BOARDS, all_boards, assert_refused, no_barred_pits, reached_seed_by_seed,
    small_plays, sown_seed_by_seed, sowings_seed_by_seed,
)
from sowring.barred import come_to, ends_of, longest_play, way_or_bar
from sowring.errors import BadBoard, BadPits, TooMany, Unlike


def way_to_itself(board, barred):
    return way_or_bar(board, board, barred)


def ranks_seed_by_seed(board, barred, known):
    if tuple(board) not in known:
        others = list(sowings_seed_by_seed(board, barred).values())
        known[tuple(board)] = max([ranks_seed_by_seed(other, barred, known) + 1 for other in others], default=0)
    return known[tuple(board)]


class ComeToTest(unittest.TestCase):
    def test_known_boards(self):
        self.assertEqual(come_to([2, 1, 0], [2]), [[0, 0, 3], [0, 1, 2], [0, 2, 1], [1, 0, 2], [2, 0, 1], [2, 1, 0]])
        self.assertEqual(ends_of([2, 1, 0], [2]), [[0, 0, 3]])
        self.assertEqual(come_to([0, 2, 0, 1], [0, 3]), [[0, 0, 0, 3], [0, 0, 1, 2], [0, 2, 0, 1]])
        self.assertEqual(ends_of([0, 2, 0, 1], [0, 3]), [[0, 0, 0, 3]])

    def test_all_small_plays_seed_by_seed(self):
        for board, barred in small_plays():
            boards = [list(found) for found in sorted(reached_seed_by_seed(board, barred))]
            self.assertEqual(come_to(board, barred), boards)
            ends = [found for found in boards if sum([found[pit] for pit in barred]) == sum(board)]
            self.assertEqual(ends_of(board, barred), ends)
            self.assertTrue(ends)
            self.assertEqual(ends, [found for found in boards if not sowings_seed_by_seed(found, barred)])

    def test_greater_plays(self):
        for board, barred in GREATER_PLAYS:
            boards = [list(found) for found in sorted(reached_seed_by_seed(board, barred))]
            self.assertEqual(come_to(board, barred), boards)
            ends = [found for found in boards if sum([found[pit] for pit in barred]) == sum(board)]
            self.assertEqual(ends_of(board, barred), ends)

    def test_where_no_sowing_can_be_done(self):
        for board, barred in [([0, 0], [0]), ([5, 0], [0]), ([0, 5, 0, 7], [1, 3]), ([0] * 24, [7]), ([999, 0], [0])]:
            self.assertEqual(come_to(board, barred), [board])
            self.assertEqual(ends_of(board, barred), [board])
            self.assertEqual(longest_play(board, barred), ([], [(board, 0)]))

    def test_one_barred_pit_leaves_one_end(self):
        for board, barred in GREATER_PLAYS:
            if len(barred) == 1:
                end = [0] * len(board)
                end[barred[0]] = sum(board)
                self.assertEqual(ends_of(board, barred), [end])

    def test_all_pits_barred_but_one(self):
        self.assertEqual(come_to([0, 3, 1], [0, 2]), [[0, 3, 1], [1, 0, 3], [1, 1, 2]])
        self.assertEqual(come_to([0, 7, 1], [0, 2]), [[0, 7, 1], [2, 2, 4], [3, 0, 5]])
        self.assertEqual(ends_of([0, 7, 1], [0, 2]), [[3, 0, 5]])


class WayOrBarTest(unittest.TestCase):
    def assert_right(self, board, other, barred, reached):
        answer = way_or_bar(board, other, barred)
        self.assertIs(type(answer), tuple)
        self.assertEqual(len(answer), 2)
        if tuple(other) in reached:
            self.assertEqual(answer[0], "way")
            now = board
            for word, pit in answer[1]:
                self.assertEqual(word, "sow")
                self.assertNotIn(pit, barred)
                self.assertGreater(now[pit], 0)
                now = sown_seed_by_seed(now, pit)[0]
            self.assertEqual(now, other)
        else:
            self.assertEqual(answer[0], "barred")
            self.assertEqual(answer[1], sorted(answer[1]))
            self.assert_no_way_out(board, other, barred, answer[1])

    def assert_no_way_out(self, board, other, barred, boards):
        held = {tuple(found) for found in boards}
        self.assertEqual(len(held), len(boards))
        self.assertIn(tuple(board), held)
        self.assertNotIn(tuple(other), held)
        for found in boards:
            self.assertEqual((len(found), sum(found)), (len(board), sum(board)))
            for behind in sowings_seed_by_seed(found, barred).values():
                self.assertIn(tuple(behind), held)

    def test_all_small_plays(self):
        for board, barred in small_plays()[::3]:
            reached = reached_seed_by_seed(board, barred)
            for other in all_boards(len(board), sum(board)):
                self.assert_right(board, other, barred, reached)

    def test_greater_plays(self):
        for board, barred in GREATER_PLAYS:
            reached = reached_seed_by_seed(board, barred)
            for other in all_boards(len(board), sum(board))[::97] + [list(max(reached)), list(min(reached))]:
                self.assert_right(board, other, barred, reached)

    def test_from_a_board_to_itself(self):
        for board, barred in [([0, 0], [1]), ([2, 0, 1], [0]), ([5, 0], [0])]:
            self.assertEqual(way_or_bar(board, list(board), barred), ("way", []))

    def test_boards_of_other_pits_or_seeds(self):
        for board, other in [
            ([1, 1, 0], [1, 1]), ([1, 1], [1, 1, 0]), ([1, 1], [1, 0]), ([0, 0], [0, 1]), ([1000, 0], [999, 0]),
            ([MOST, 0, 0], [MOST, 0]), ([3] + [0] * 23, [2] + [0] * 23),
        ]:
            assert_refused(self, Unlike, way_or_bar, board, other, [0])
            assert_refused(self, Unlike, way_or_bar, other, board, [1])

    def test_barred_pits_are_those_of_the_first_board(self):
        assert_refused(self, BadPits, way_or_bar, [1, 1], [1, 1, 0], [2])
        assert_refused(self, BadPits, way_or_bar, [1, 1], [1, 1, 0], [0, 1])
        assert_refused(self, Unlike, way_or_bar, [1, 1, 0], [1, 1], [0, 1])
        assert_refused(self, Unlike, way_or_bar, [1, 1, 0], [1, 1], [2])

    def test_barred_pits_go_ahead_of_unlike_boards(self):
        for barred in no_barred_pits([1, 2, 3]):
            assert_refused(self, BadPits, way_or_bar, [1, 2, 3], [1, 2], barred)
            assert_refused(self, BadPits, way_or_bar, [1, 2, 3], [1, 2, 4], barred)


class LongestPlayTest(unittest.TestCase):
    def assert_longest(self, board, barred):
        plan, ranks = longest_play(board, barred)
        known = {}
        ranks_seed_by_seed(board, barred, known)
        self.assertEqual(ranks, [(list(found), known[found]) for found in sorted(known)])
        self.assertEqual(len(plan), known[tuple(board)])
        now = board
        for word, pit in plan:
            self.assertEqual(word, "sow")
            self.assertNotIn(pit, barred)
            self.assertGreater(now[pit], 0)
            now = sown_seed_by_seed(now, pit)[0]
        self.assertEqual(sowings_seed_by_seed(now, barred), {})

    def test_known_plays(self):
        plan, ranks = longest_play([0, 1, 0], [0])
        self.assertEqual(plan, [("sow", 1), ("sow", 2)])
        self.assertEqual(ranks, [([0, 0, 1], 1), ([0, 1, 0], 2), ([1, 0, 0], 0)])

    def test_all_small_plays(self):
        for board, barred in small_plays():
            self.assert_longest(board, barred)

    def test_greater_plays(self):
        for board, barred in GREATER_PLAYS:
            self.assert_longest(board, barred)

    def test_ranks_are_pairs(self):
        plan, ranks = longest_play([2, 1, 0], [2])
        for found in ranks:
            self.assertIs(type(found), tuple)
            self.assertEqual([type(part) for part in found], [list, int])


class RefusalsTest(unittest.TestCase):
    functions = (come_to, ends_of, longest_play, way_to_itself)

    def assert_all_refuse(self, kind, board, barred):
        for function in self.functions:
            assert_refused(self, kind, function, board, barred)

    def test_lists_that_are_no_barred_pits(self):
        for board in ([1, 2, 3], [0, 0, 0], [1, 0, 0, 2, 0], [0] * 24):
            for barred in no_barred_pits(board):
                self.assert_all_refuse(BadPits, board, barred)
        for barred in ([], [0, 1], [1, 0], [0, 0], [2], [-1], [0, 2]):
            self.assert_all_refuse(BadPits, [1, 1], barred)

    def test_just_1000_boards_and_more(self):
        self.assertEqual(come_to([999, 0], [0]), [[999, 0]])
        self.assertEqual(ends_of([0, 999], [0]), [[999, 0]])
        for board in MANY_BOARDS:
            self.assert_all_refuse(TooMany, board, [0])
            self.assert_all_refuse(TooMany, board, [1])

    def test_barred_pits_go_ahead_of_too_many_boards(self):
        for board in MANY_BOARDS:
            for barred in ([], [1, 0], [len(board)], list(range(len(board)))):
                self.assert_all_refuse(BadPits, board, barred)

    def test_a_board_that_is_none_goes_ahead(self):
        for board in NO_BOARDS:
            for barred in ([0], [], [1, 0], [99]):
                self.assert_all_refuse(BadBoard, board, barred)
                assert_refused(self, BadBoard, way_or_bar, board, [1, 1], barred)
                assert_refused(self, BadBoard, way_or_bar, [1, 1], board, barred)
                assert_refused(self, BadBoard, way_or_bar, [1000, 0], board, barred)


if __name__ == "__main__":
    unittest.main()
