"""Points 61 and 62: who makes the last sowing, worths, two boards side by side."""

import unittest

from samples import (
    GREATER_PLAYS, MANY_BOARDS, NO_BOARDS, all_boards, assert_refused, barred_choices, no_barred_pits,
    reached_seed_by_seed, small_plays, sowings_seed_by_seed,
)
from sowring.barred import come_to
from sowring.errors import BadBoard, BadPits, TooMany
from sowring.hands import side_by_side, who_wins, worths


def wins(board, barred, known):
    """Whether the hand that is to sow wins, by trying all sowings."""
    if tuple(board) not in known:
        others = list(sowings_seed_by_seed(board, barred).values())
        known[tuple(board)] = not all([wins(other, barred, known) for other in others])
    return known[tuple(board)]


def worth(board, barred, known):
    if tuple(board) not in known:
        taken = {worth(other, barred, known) for other in sowings_seed_by_seed(board, barred).values()}
        known[tuple(board)] = min([number for number in range(len(taken) + 1) if number not in taken])
    return known[tuple(board)]


def wins_both(board, barred, other, other_barred, known):
    """Whether the hand that is to sow wins on two boards side by side, by trying all sowings."""
    both = (tuple(board), tuple(other))
    if both not in known:
        nexts = [(found, other) for found in sowings_seed_by_seed(board, barred).values()]
        nexts += [(board, found) for found in sowings_seed_by_seed(other, other_barred).values()]
        known[both] = not all([wins_both(one, barred, two, other_barred, known) for one, two in nexts])
    return known[both]


class WhoWinsTest(unittest.TestCase):
    def assert_right(self, board, barred):
        answer = who_wins(board, barred)
        self.assertIs(type(answer), tuple)
        winner, pit, lost = answer
        known = {}
        first = wins(board, barred, known)
        boards = [list(found) for found in sorted(reached_seed_by_seed(board, barred))]
        self.assertEqual(lost, [found for found in boards if not wins(found, barred, known)])
        if first:
            self.assertEqual(winner, "first")
            self.assertIn(sowings_seed_by_seed(board, barred)[pit], lost)
        else:
            self.assertEqual((winner, pit), ("second", None))

    def test_known_plays(self):
        self.assertEqual(who_wins([0, 1, 0], [0]), ("second", None, [[0, 1, 0], [1, 0, 0]]))
        self.assertEqual(who_wins([0, 0, 1], [0]), ("first", 2, [[1, 0, 0]]))

    def test_all_small_plays(self):
        for board, barred in small_plays():
            self.assert_right(board, barred)

    def test_greater_plays(self):
        for board, barred in GREATER_PLAYS:
            self.assert_right(board, barred)

    def test_where_no_sowing_can_be_done(self):
        for board, barred in [([0, 0], [0]), ([5, 0], [0]), ([0, 5, 0, 7], [1, 3]), ([0] * 24, [7]), ([999, 0], [0])]:
            self.assertEqual(who_wins(board, barred), ("second", None, [board]))
            self.assertEqual(worths(board, barred), [(board, 0)])


class WorthsTest(unittest.TestCase):
    def assert_right(self, board, barred):
        known = {}
        worth(board, barred, known)
        answer = worths(board, barred)
        self.assertEqual(answer, [(list(found), known[found]) for found in sorted(known)])
        self.assertEqual([found for found, number in answer], come_to(board, barred))

    def test_known_worths(self):
        self.assertEqual(worths([0, 1, 0], [0]), [([0, 0, 1], 1), ([0, 1, 0], 0), ([1, 0, 0], 0)])

    def test_all_small_plays(self):
        for board, barred in small_plays():
            self.assert_right(board, barred)

    def test_greater_plays(self):
        for board, barred in GREATER_PLAYS:
            self.assert_right(board, barred)

    def test_worths_are_greater_than_one_too(self):
        self.assertGreater(max([number for found, number in worths([1, 5, 5, 5], [3])]), 2)

    def test_the_answer_is_a_list_of_pairs(self):
        for found in worths([2, 1, 0], [2]):
            self.assertIs(type(found), tuple)
            self.assertEqual([type(part) for part in found], [list, int])


class SideBySideTest(unittest.TestCase):
    def assert_right(self, board, barred, other, other_barred):
        answer = side_by_side(board, barred, other, other_barred)
        known = {}
        if not wins_both(board, barred, other, other_barred, known):
            self.assertIsNone(answer)
            return
        self.assertIs(type(answer), tuple)
        k, pit = answer
        if k == 0:
            board = sowings_seed_by_seed(board, barred)[pit]
        else:
            self.assertEqual(k, 1)
            other = sowings_seed_by_seed(other, other_barred)[pit]
        self.assertFalse(wins_both(board, barred, other, other_barred, known))

    def test_small_boards(self):
        ones = [(board, barred) for board in all_boards(3, 3) for barred in barred_choices(3)]
        others = [(board, barred) for board in all_boards(4, 2) for barred in barred_choices(4)]
        for board, barred in ones[::3]:
            for other, other_barred in others[::5]:
                self.assert_right(board, barred, other, other_barred)
                self.assert_right(other, other_barred, board, barred)

    def test_both_boards_of_worths_above_one(self):
        for board, barred in [([1, 2, 2, 2], [3]), ([2, 1, 1, 0, 1], [4])]:
            for other, other_barred in [([0, 3, 2], [0]), ([1, 1, 2, 0], [0])]:
                self.assert_right(board, barred, other, other_barred)
                self.assert_right(other, other_barred, board, barred)

    def test_two_boards_of_the_same_worth(self):
        for board, barred in small_plays()[::5] + GREATER_PLAYS:
            self.assertIsNone(side_by_side(board, barred, list(board), list(barred)))
        self.assertIsNone(side_by_side([0, 1, 0], [0], [5, 0], [0]))
        self.assertIsNone(side_by_side([0, 0], [0], [0] * 24, [3]))

    def test_one_of_two_boards_leads_to_a_win(self):
        self.assertEqual(side_by_side([0, 0, 1], [0], [5, 0], [0]), (0, 2))
        self.assertEqual(side_by_side([5, 0], [0], [0, 0, 1], [0]), (1, 2))

    def test_greater_boards(self):
        for board, barred in GREATER_PLAYS:
            for other, other_barred in GREATER_PLAYS[::2]:
                numbers = dict([(tuple(found), number) for found, number in worths(board, barred)])
                others = dict([(tuple(found), number) for found, number in worths(other, other_barred)])
                answer = side_by_side(board, barred, other, other_barred)
                if numbers[tuple(board)] == others[tuple(other)]:
                    self.assertIsNone(answer)
                elif answer[0] == 0:
                    behind = sowings_seed_by_seed(board, barred)[answer[1]]
                    self.assertEqual(numbers[tuple(behind)], others[tuple(other)])
                else:
                    behind = sowings_seed_by_seed(other, other_barred)[answer[1]]
                    self.assertEqual(numbers[tuple(board)], others[tuple(behind)])


class RefusalsTest(unittest.TestCase):
    def assert_all_refuse(self, kind, board, barred):
        for function in (who_wins, worths):
            assert_refused(self, kind, function, board, barred)
        assert_refused(self, kind, side_by_side, board, barred, [1, 1], [0])
        assert_refused(self, kind, side_by_side, [1, 1], [0], board, barred)

    def test_lists_that_are_no_boards(self):
        for board in NO_BOARDS:
            for barred in ([0], [], [1, 0], [99]):
                self.assert_all_refuse(BadBoard, board, barred)

    def test_lists_that_are_no_barred_pits(self):
        for board in ([1, 2, 3], [0, 0, 0], [1, 0, 0, 2, 0], [0] * 24):
            for barred in no_barred_pits(board):
                self.assert_all_refuse(BadPits, board, barred)
        for barred in ([], [0, 1], [1, 0], [0, 0], [2], [-1], [0, 2]):
            self.assert_all_refuse(BadPits, [1, 1], barred)

    def test_just_1000_boards_and_more(self):
        self.assertEqual(who_wins([999, 0], [0]), ("second", None, [[999, 0]]))
        self.assertIsNone(side_by_side([999, 0], [0], [0, 999], [1]))
        for board in MANY_BOARDS:
            self.assert_all_refuse(TooMany, board, [0])
            self.assert_all_refuse(TooMany, board, [1])

    def test_both_boards_go_ahead_of_both_barred_lists(self):
        for board in NO_BOARDS:
            assert_refused(self, BadBoard, side_by_side, [1, 1], [], board, [0])
            assert_refused(self, BadBoard, side_by_side, board, [0], [1, 1], [1, 0])
            assert_refused(self, BadBoard, side_by_side, [1000, 0], [0], board, [0])

    def test_both_barred_lists_go_ahead_of_both_counts(self):
        for barred in ([], [1, 0], [2], [0, 1]):
            assert_refused(self, BadPits, side_by_side, [1000, 0], [0], [1, 1], barred)
            assert_refused(self, BadPits, side_by_side, [1, 1], barred, [1000, 0], [0])
            assert_refused(self, BadPits, side_by_side, [1000, 0], barred, [1000, 0], [0])
            self.assert_all_refuse(BadPits, [1000, 0], barred)

    def test_each_barred_list_is_held_to_its_own_board(self):
        assert_refused(self, BadPits, side_by_side, [1, 1], [2], [1, 1, 1], [0])
        assert_refused(self, BadPits, side_by_side, [1, 1, 1], [0], [1, 1], [2])
        assert_refused(self, BadPits, side_by_side, [1, 1, 1], [0, 1], [1, 1], [0, 1])


if __name__ == "__main__":
    unittest.main()
