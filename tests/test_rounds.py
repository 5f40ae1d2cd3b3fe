"""Points 31 to 34: rounds of standings."""

import math
import unittest

from samples import (
    BAD_SIZES, GREAT_SIZES, MOST, NO_BOARDS, all_boards, all_turns, assert_refused, no_pits, small_standings,
    sown_seed_by_seed,
)
from sowring.errors import BadBoard, BadCount, BadPit, NoSeeds, TooLong, TooMany
from sowring.ring import gone_on
from sowring.rounds import all_rounds, one_ring_round, round_laps, round_of, standing_count

# Boards with the pit to begin at and the number of standings of the round.
LONG_ROUNDS = [
    ([4, 3, 6, 4, 3, 6, 1, 3], 2, 19000),
    ([2, 0, 1, 1, 0, 3, 3, 2, 1, 2, 2, 1, 3, 0, 0, 0, 2], 16, 18938),
    ([7, 3, 13, 12, 10], 3, 15065),
]

ROUND_QUESTIONS = (round_of, round_laps, one_ring_round)


def round_seed_by_seed(board, pit):
    standings = [(list(board), pit)]
    standing = sown_seed_by_seed(board, pit)
    while standing != standings[0]:
        standings.append(standing)
        standing = sown_seed_by_seed(*standing)
    return standings


def standings_of(pits, seeds):
    return [(board, pit) for board in all_boards(pits, seeds) for pit in range(pits) if board[pit] > 0]


class RoundOfTest(unittest.TestCase):
    def test_a_round_from_its_standing_on(self):
        self.assertEqual(round_of([2, 0, 1], 0, 3), [([2, 0, 1], 0), ([0, 1, 2], 2), ([1, 2, 0], 1)])
        self.assertEqual(round_of([0, 1, 2], 2, 20000), [([0, 1, 2], 2), ([1, 2, 0], 1), ([2, 0, 1], 0)])
        self.assertEqual(round_of([1, 0], 0, 2), [([1, 0], 0), ([0, 1], 1)])

    def test_all_small_standings_seed_by_seed(self):
        for board, pit in small_standings()[::3]:
            self.assertEqual(round_of(board, pit, 20000), round_seed_by_seed(board, pit))

    def test_the_board_alone_may_come_again_sooner(self):
        standings = round_of([1, 1], 0, 10)
        self.assertEqual(standings, [([1, 1], 0), ([0, 2], 1), ([1, 1], 1), ([2, 0], 0)])

    def test_24_pits(self):
        standings = round_of([0] * 23 + [1], 23, 24)
        self.assertEqual([pit for board, pit in standings], [23] + list(range(23)))

    def test_long_rounds(self):
        for board, pit, length in LONG_ROUNDS:
            standings = round_of(board, pit, length)
            self.assertEqual(len(standings), length)
            self.assertEqual(standings[0], (board, pit))
            self.assertEqual(len({(tuple(other), last) for other, last in standings}), length)
            for place in (0, 1, 777, length - 1):
                behind = standings[(place + 1) % length]
                self.assertEqual(gone_on(standings[place][0], standings[place][1], 1), behind)

    def test_great_boards(self):
        for seeds, length in [(2 ** 198 - 1, 199), (2 ** 198, 398), (2 ** 199, 400)]:
            for first in (0, 5, 12345):
                board = [seeds - first, first]
                standings = round_of(board, 0, length)
                self.assertEqual(len(standings), length)
                for place, standing in enumerate(standings):
                    self.assertEqual(gone_on(board, 0, place), standing)

    def test_a_great_board_with_a_short_round(self):
        third = 2 ** 198 // 3
        standings = [([2 * third + 1, third], 0), ([third, 2 * third + 1], 1)]
        self.assertEqual(round_of([2 * third + 1, third], 0, 2), standings)
        assert_refused(self, TooLong, round_of, [2 * third + 1, third], 0, 1)

    def test_the_answer_is_a_list_of_pairs(self):
        for standing in round_of([2, 0, 1], 0, 3):
            self.assertIs(type(standing), tuple)
            self.assertIs(type(standing[0]), list)
            self.assertIs(type(standing[1]), int)


class RoundLapsTest(unittest.TestCase):
    def test_known_laps(self):
        self.assertEqual(round_laps([2, 0, 1], 0, 3), 2)
        self.assertEqual(round_laps([1, 0], 0, 2), 1)
        self.assertEqual(round_laps([1, 1], 0, 4), 3)
        self.assertEqual(round_laps([0] * 23 + [1], 23, 24), 1)

    def test_the_seeds_sown_are_a_multiple_of_the_pits(self):
        for board, pit in small_standings()[::3]:
            put = sum([other[last] for other, last in round_seed_by_seed(board, pit)])
            self.assertEqual(round_laps(board, pit, 20000) * len(board), put)

    def test_great_boards(self):
        seeds = 2 ** 198 - 1
        put = sum([board[pit] for board, pit in round_of([seeds - 5, 5], 0, 199)])
        self.assertGreater(put, MOST)
        self.assertEqual(round_laps([seeds - 5, 5], 0, 199) * 2, put)


class OneRingRoundTest(unittest.TestCase):
    def test_known_ones(self):
        self.assertEqual(one_ring_round([2, 0, 1], 0, 3), (1, 2))
        self.assertEqual(one_ring_round([1, 1], 0, 4), (2, 1))
        self.assertEqual(one_ring_round([0] * 23 + [1], 23, 24), (1, 1))

    def test_all_small_standings(self):
        for board, pit in small_standings()[::3]:
            standings = round_seed_by_seed(board, pit)
            turns = [(turn, (pit + k) % len(board)) for k, turn in enumerate(all_turns(board))]
            steps = 1
            while standings[steps % len(standings)] not in turns:
                steps += 1
            k = turns.index(standings[steps % len(standings)])
            self.assertEqual(one_ring_round(board, pit, 20000), (steps, k))
            times = len(board) // math.gcd(len(board), k)
            self.assertEqual(steps * times, len(standings))

    def test_a_board_that_is_its_own_turn_is_turned_with_its_pit(self):
        for board, pit in [([1, 1, 1, 1], 0), ([2, 1, 2, 1], 2), ([3, 3, 3], 1)]:
            steps, k = one_ring_round(board, pit, 20000)
            other, last = gone_on(board, pit, steps)
            self.assertEqual(last, (pit + k) % len(board))

    def test_standings_turned_alike_have_rounds_turned_alike(self):
        for board, pit in [([2, 0, 5, 1], 2), ([0, 3, 3, 1, 1], 1), ([4, 0, 2], 0)]:
            first = round_of(board, pit, 20000)
            for k, turn in enumerate(all_turns(board)):
                others = round_of(turn, (pit + k) % len(board), 20000)
                turned = [(all_turns(other)[k], (last + k) % len(board)) for other, last in first]
                self.assertEqual(others, turned)
                self.assertEqual(one_ring_round(turn, (pit + k) % len(board), 20000), one_ring_round(board, pit, 20000))

    def test_great_boards(self):
        self.assertEqual(one_ring_round([2 ** 198 - 6, 5], 0, 199), (199, 0))
        self.assertEqual(one_ring_round([2 ** 198 - 5, 5], 0, 398), (199, 1))

    def test_the_whole_round_must_not_be_too_long(self):
        assert_refused(self, TooLong, one_ring_round, [2, 0, 1], 0, 2)
        assert_refused(self, TooLong, one_ring_round, [2, 0, 1], 0, 1)
        assert_refused(self, TooLong, one_ring_round, [0] * 23 + [1], 23, 23)
        assert_refused(self, TooLong, one_ring_round, [2 ** 198 - 5, 5], 0, 397)
        assert_refused(self, TooLong, one_ring_round, [2 ** 198 - 5, 5], 0, 199)
        assert_refused(self, TooLong, one_ring_round, [2 ** 198 - 6, 5], 0, 198)


class RoundRefusalsTest(unittest.TestCase):
    def assert_all_refuse(self, kind, *asked):
        for function in ROUND_QUESTIONS:
            assert_refused(self, kind, function, *asked)

    def test_just_as_many_standings_and_one_more(self):
        for board, pit in small_standings()[::40]:
            length = len(round_seed_by_seed(board, pit))
            for function in ROUND_QUESTIONS:
                self.assertEqual(function(board, pit, length), function(board, pit, 20000))
            self.assert_all_refuse(TooLong, board, pit, length - 1)
        for board, pit, length in LONG_ROUNDS:
            for function in ROUND_QUESTIONS:
                self.assertEqual(function(board, pit, length), function(board, pit, 20000))
            self.assert_all_refuse(TooLong, board, pit, length - 1)

    def test_more_than_20000_standings(self):
        self.assert_all_refuse(TooLong, [2, 1, 4, 2, 1, 0, 2, 1, 0, 2, 4, 0, 2, 4, 1, 1, 4], 3, 20000)
        self.assert_all_refuse(TooLong, [MOST] + [0] * 23, 0, 20000)
        self.assert_all_refuse(TooLong, [10 ** 58 + 7 * place for place in range(24)], 5, 20000)
        self.assert_all_refuse(TooLong, [1, 0], 0, 1)

    def test_lists_that_are_no_boards(self):
        for board in NO_BOARDS:
            self.assert_all_refuse(BadBoard, board, 0, 5)
            self.assert_all_refuse(BadBoard, board, 99, 0)

    def test_numbers_that_are_no_pits(self):
        for board in ([1, 1], [1, 0, 2], [1] * 24):
            for pit in no_pits(board):
                self.assert_all_refuse(BadPit, board, pit, 5)
                self.assert_all_refuse(BadPit, board, pit, 0)

    def test_pits_without_seeds(self):
        for most in (1, 5, 0, 20001):
            self.assert_all_refuse(NoSeeds, [0, 4], 0, most)
            self.assert_all_refuse(NoSeeds, [0] * 24, 23, most)

    def test_numbers_beyond_their_bounds(self):
        for most in (0, -1, 20001, 20002, 10 ** 69, -(10 ** 69)):
            self.assert_all_refuse(BadCount, [2, 0, 1], 0, most)
            self.assert_all_refuse(BadCount, [MOST] + [0] * 23, 0, most)


class AllRoundsTest(unittest.TestCase):
    def test_standing_counts(self):
        self.assertEqual(standing_count(2, 1), 2)
        self.assertEqual(standing_count(3, 2), 9)
        self.assertEqual(standing_count(24, 2), 576)
        for pits in range(2, 7):
            for seeds in range(8):
                self.assertEqual(standing_count(pits, seeds), len(standings_of(pits, seeds)))

    def test_great_standing_counts(self):
        self.assertEqual(standing_count(2, MOST), 2 * MOST)
        for pits, seeds in GREAT_SIZES:
            self.assertEqual(standing_count(pits, seeds), pits * math.comb(seeds + pits - 2, pits - 1))

    def test_no_seeds_have_no_standings(self):
        for pits in (2, 3, 24):
            self.assertEqual(standing_count(pits, 0), 0)
            self.assertEqual(all_rounds(pits, 0), [])

    def test_known_rounds(self):
        self.assertEqual(all_rounds(2, 1), [(2, ([0, 1], 1))])
        self.assertEqual(all_rounds(2, 2), [(4, ([0, 2], 1))])
        self.assertEqual(all_rounds(24, 1), [(24, ([0] * 23 + [1], 23))])

    def test_all_small_sizes_seed_by_seed(self):
        for pits in range(2, 6):
            for seeds in range(7):
                left = standings_of(pits, seeds)
                rounds = []
                while left:
                    standings = round_seed_by_seed(*left[0])
                    rounds.append((len(standings), min(standings)))
                    left = [standing for standing in left if standing not in standings]
                self.assertEqual(all_rounds(pits, seeds), rounds)

    def test_greater_sizes_sum_up_to_all_standings(self):
        for pits, seeds in [(2, 1500), (2, 1023), (3, 44), (10, 4), (23, 2), (24, 2), (5, 9)]:
            rounds = all_rounds(pits, seeds)
            self.assertEqual(sum([count for count, least in rounds]), standing_count(pits, seeds))
            leasts = [least for count, least in rounds]
            self.assertEqual(leasts, sorted(leasts))
            for count, least in rounds[::7]:
                standings = round_of(least[0], least[1], count)
                self.assertEqual((len(standings), min(standings)), (count, least))

    def test_just_3000_standings_and_more(self):
        self.assertEqual(standing_count(2, 1500), 3000)
        self.assertEqual(sum([count for count, least in all_rounds(2, 1500)]), 3000)
        for pits, seeds in [(2, 1501), (3, 45), (24, 3), (24, 4), (2, MOST), (24, MOST)]:
            assert_refused(self, TooMany, all_rounds, pits, seeds)

    def test_sizes_out_of_bounds_are_refused(self):
        for pits, seeds in BAD_SIZES:
            assert_refused(self, BadCount, standing_count, pits, seeds)
            assert_refused(self, BadCount, all_rounds, pits, seeds)

    def test_the_answer_is_a_list_of_pairs(self):
        for count, least in all_rounds(3, 3):
            self.assertIs(type(count), int)
            self.assertIs(type(least), tuple)
            self.assertIs(type(least[0]), list)
            self.assertIs(type(least[1]), int)


if __name__ == "__main__":
    unittest.main()
