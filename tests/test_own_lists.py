"""Points 1 and 2: what is handed in stays, what is told is the asker's own, and answers stay the same."""

import copy
import unittest

from samples import MOST, NO_BOARDS
from sowring.barred import come_to, ends_of, longest_play, way_or_bar
from sowring.book import RingBook
from sowring.counting import board_at, board_count, next_board, number_of, ring_count
from sowring.desk import answers_to
from sowring.errors import SowError
from sowring.hands import side_by_side, who_wins, worths
from sowring.home import brought_home, home_yard, less_by_one, more_by_one, sown_home
from sowring.homes import again_after, first_pits, seeds_for, wanted_from
from sowring.least import least_way
from sowring.lines import ahead_of, comes_to, is_marching, line_behind, marched
from sowring.marching import (
    first_of_round, number_of_row, round_at, round_count, row_at, row_count, steps_of_round,
)
from sowring.ring import gone_on, sown, taken_back
from sowring.rounds import all_rounds, one_ring_round, round_laps, round_of, standing_count
from sowring.texts import board_text, read_board
from sowring.turning import least_turn, own_turn, turned
from sowring.ways import gathered, walked, way_to

QUESTIONS = [
    (sown, ([2, 0, 1], 0)),
    (sown, ([MOST, 0], 0)),
    (sown, ([5, 0], 0)),
    (taken_back, ([2, 0, 1], 0)),
    (taken_back, ([1, 1, 1], 0)),
    (gone_on, ([2, 0, 1], 0, 0)),
    (gone_on, ([2, 0, 1], 0, 1)),
    (gone_on, ([2, 0, 1], 0, 3)),
    (gone_on, ([2, 0, 1], 0, -1)),
    (gone_on, ([2, 0, 1], 0, -3)),
    (gone_on, ([7, 3, 0, 2, 9], 4, 1000)),
    (gone_on, ([7, 3, 0, 2, 9], 4, -1000)),
    (board_count, (3, 4)),
    (ring_count, (3, 4)),
    (board_at, (3, 4, 0)),
    (board_at, (3, 4, 14)),
    (board_at, (2, 0, 0)),
    (number_of, ([2, 0, 1],)),
    (next_board, ([0, 0, 3],)),
    (next_board, ([2, 1, 0],)),
    (next_board, ([3, 0, 0],)),
    (turned, ([2, 0, 1], 0)),
    (turned, ([2, 0, 1], 1)),
    (turned, ([2, 0, 1], -6)),
    (turned, ([2, 2], 1)),
    (least_turn, ([2, 0, 1],)),
    (least_turn, ([0, 1, 2],)),
    (least_turn, ([2, 2],)),
    (own_turn, ([2, 0, 1],)),
    (own_turn, ([2, 2],)),
    (round_of, ([2, 0, 1], 0, 3)),
    (round_of, ([7, 3, 0, 2, 9], 4, 20000)),
    (round_laps, ([2, 0, 1], 0, 3)),
    (one_ring_round, ([2, 0, 1], 0, 3)),
    (standing_count, (3, 4)),
    (all_rounds, (3, 4)),
    (all_rounds, (4, 4)),
    (all_rounds, (3, 0)),
    (walked, ([2, 0, 1], [])),
    (walked, ([2, 0, 1], [("sow", 0), ("back", 2)])),
    (walked, ([2, 0, 1], [("sow", 0), ("sow", 2)])),
    (gathered, ([2, 0, 1], 0)),
    (gathered, ([3, 0, 0], 0)),
    (way_to, ([2, 0, 1], [0, 3, 0])),
    (way_to, ([2, 0, 1], [2, 0, 1])),
    (least_way, ([2, 0, 1], [0, 3, 0])),
    (least_way, ([2, 0, 1], [2, 0, 1])),
    (come_to, ([2, 0, 1], [1])),
    (come_to, ([2, 0, 1], [0, 2])),
    (ends_of, ([2, 0, 1], [1])),
    (ends_of, ([2, 0, 1], [0, 2])),
    (way_or_bar, ([2, 0, 1], [0, 3, 0], [1])),
    (way_or_bar, ([2, 0, 1], [3, 0, 0], [1])),
    (way_or_bar, ([2, 0, 1], [2, 0, 1], [1])),
    (way_or_bar, ([2, 0, 1], [0, 3, 0], [0, 2])),
    (longest_play, ([2, 0, 1], [1])),
    (longest_play, ([2, 0, 1], [0, 2])),
    (who_wins, ([2, 0, 1], [1])),
    (who_wins, ([2, 0, 1], [0, 2])),
    (who_wins, ([0, 3, 1, 1], [0])),
    (worths, ([2, 0, 1], [1])),
    (side_by_side, ([2, 0, 1], [1], [1, 1], [0])),
    (side_by_side, ([2, 0, 1], [1], [2, 0, 1], [1])),
    (marched, ([],)),
    (marched, ([3, 0, 1],)),
    (marched, ([2, 1],)),
    (ahead_of, ([],)),
    (ahead_of, ([2, 1, 1],)),
    (ahead_of, ([2, 1],)),
    (is_marching, ([2, 1, 1],)),
    (is_marching, ([3],)),
    (comes_to, ([],)),
    (comes_to, ([2, 1, 1],)),
    (comes_to, ([3, 0, 5],)),
    (line_behind, ([], 0)),
    (line_behind, ([3, 0, 5], 0)),
    (line_behind, ([2, 1, 1], 0)),
    (line_behind, ([2, 1, 1], 3)),
    (line_behind, ([3, 0, 5], MOST)),
    (row_count, (8,)),
    (round_count, (8,)),
    (row_at, (8, 3)),
    (row_at, (0, 0)),
    (number_of_row, ([4, 2, 2],)),
    (number_of_row, ([],)),
    (first_of_round, ([4, 2, 2],)),
    (first_of_round, ([3, 3, 1, 1],)),
    (first_of_round, ([],)),
    (steps_of_round, ([4, 2, 2],)),
    (round_at, (8, 1)),
    (round_at, (0, 0)),
    (sown_home, ([0, 1, 3], 3)),
    (sown_home, ([1], 1)),
    (home_yard, (0,)),
    (home_yard, (10000,)),
    (brought_home, ([],)),
    (brought_home, ([0, 1, 3],)),
    (brought_home, ([2],)),
    (more_by_one, ([],)),
    (more_by_one, ([0, 1, 3],)),
    (less_by_one, ([0, 1, 3],)),
    (less_by_one, ([1],)),
    (first_pits, (0, 0)),
    (first_pits, (MOST, 200)),
    (wanted_from, (2000,)),
    (again_after, (200,)),
    (seeds_for, ([],)),
    (seeds_for, ([0, 1, 3, 0],)),
    (seeds_for, ([1, 2, 3, 4],)),
    (read_board, ("2 0 1",)),
    (board_text, ([2, 0, 1],)),
    (answers_to, ("2 0 1",)),
    (answers_to, ("2 0 1\nsow 0\nsow 0\non 0 0\nring\nends 1\nends 1\nto 2 0 1\nleast 2 0 1\nlongest 1\nxyz\n",)),
    (answers_to, ("2 0 1\nback 0\ngather 1\nmarch 0\nmarch 0\nmarching\nmarching\nhome\nhomes\nhomes\nwins 1\n",)),
]

REFUSED = [
    (sown, ([2, 0, 1], 1)),
    (sown, ([2, 0, 1], 3)),
    (taken_back, ([2, 0, 1], 1)),
    (taken_back, ([2, 0, 1], 3)),
    (gone_on, ([2, 0, 1], 0, 1001)),
    (gone_on, ([2, 0, 1], 1, 1)),
    (round_of, ([2, 0, 1], 0, 2)),
    (one_ring_round, ([2, 0, 1], 0, 2)),
    (walked, ([2, 0, 1], [("sow", 0), ("sow", 0)])),
    (gathered, ([60, 0, 1], 0)),
    (way_to, ([2, 0, 1], [2, 0, 2])),
    (least_way, ([1000, 0], [0, 1000])),
    (come_to, ([2, 0, 1], [1, 0])),
    (way_or_bar, ([2, 0, 1], [2, 1], [1])),
    (who_wins, ([2, 0, 1], [1, 0])),
    (side_by_side, ([2, 0, 1], [1], [1, 1], [0, 1])),
    (marched, ([3, 0],)),
    (line_behind, ([3, 1], -1)),
    (number_of_row, ([3],)),
    (first_of_round, ([2, 0],)),
    (sown_home, ([0, 1, 3], 2)),
    (less_by_one, ([2],)),
    (seeds_for, ([0, 3],)),
    (board_text, ([2],)),
    (RingBook, ([2],)),
]


def lists_in(value):
    if isinstance(value, list):
        return [value] + [found for part in value for found in lists_in(part)]
    if isinstance(value, tuple):
        return [found for part in value for found in lists_in(part)]
    return []


def parts_of(value):
    """All that is in an answer and is no list and no tuple."""
    if type(value) in (list, tuple):
        return [found for part in value for found in parts_of(part)]
    return [value]


class OwnListsTest(unittest.TestCase):
    def test_what_is_handed_in_stays_as_it_was(self):
        for function, asked in QUESTIONS:
            with self.subTest(function=function.__name__, asked=asked):
                handed = copy.deepcopy(asked)
                function(*handed)
                self.assertEqual(handed, asked)

    def test_what_is_handed_in_and_refused_stays_as_it_was(self):
        bad = [(function, (board, 0)) for function in (sown, taken_back) for board in NO_BOARDS]
        bad += [(function, (board,)) for function in (number_of, next_board, least_turn) for board in NO_BOARDS]
        for function, asked in REFUSED + bad:
            handed = copy.deepcopy(asked)
            with self.assertRaises(SowError):
                function(*handed)
            self.assertEqual(handed, asked)

    def test_no_list_that_is_told_is_one_that_was_handed_in(self):
        for function, asked in QUESTIONS:
            with self.subTest(function=function.__name__, asked=asked):
                handed = copy.deepcopy(asked)
                for told in lists_in(function(*handed)):
                    for given in lists_in(handed):
                        self.assertIsNot(told, given)

    def test_no_two_lists_that_are_told_are_one(self):
        for function, asked in QUESTIONS:
            with self.subTest(function=function.__name__, asked=asked):
                told = lists_in(function(*asked)) + lists_in(function(*asked))
                self.assertEqual(len({id(found) for found in told}), len(told))

    def test_changing_what_was_told_changes_nothing_told_later(self):
        for function, asked in QUESTIONS:
            with self.subTest(function=function.__name__, asked=asked):
                handed = copy.deepcopy(asked)
                first = function(*handed)
                kept = copy.deepcopy(first)
                for found in lists_in(first):
                    found[:] = [99] * 30
                self.assertEqual(handed, asked)
                self.assertEqual(function(*handed), kept)

    def test_changing_what_was_handed_in_changes_nothing_that_was_told(self):
        for function, asked in QUESTIONS:
            with self.subTest(function=function.__name__, asked=asked):
                handed = copy.deepcopy(asked)
                first = function(*handed)
                kept = copy.deepcopy(first)
                for given in lists_in(handed):
                    given[:] = [99] * 30
                self.assertEqual(first, kept)
                self.assertEqual(function(*copy.deepcopy(asked)), kept)

    def test_a_board_is_read_anew_each_time(self):
        board = [2, 0, 1]
        sown(board, 0)
        number_of(board)
        least_turn(board)
        board[0] = 4
        self.assertEqual(sown(board, 0), ([1, 2, 2], 1))
        self.assertEqual(number_of(board), 18)
        self.assertEqual(least_turn(board), ([0, 1, 4], 2))

    def test_the_same_question_has_the_same_answer_in_any_order(self):
        answers = [function(*asked) for function, asked in QUESTIONS]
        again = [function(*asked) for function, asked in reversed(QUESTIONS)]
        self.assertEqual(answers, again[::-1])

    def test_what_was_told_may_be_handed_in_again(self):
        board, last = sown([2, 0, 1], 0)
        self.assertEqual(gone_on(board, last, -1), ([2, 0, 1], 0))
        self.assertEqual(number_of(board_at(24, MOST, board_count(24, MOST) - 5)), board_count(24, MOST) - 5)

    def test_what_is_told_is_made_of_the_kinds_told(self):
        for function, asked in QUESTIONS:
            with self.subTest(function=function.__name__, asked=asked):
                kinds = (bool,) if function == is_marching else (int, str, type(None))
                for part in parts_of(function(*asked)):
                    self.assertIn(type(part), kinds)


if __name__ == "__main__":
    unittest.main()
