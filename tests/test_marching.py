"""Points 81 and 82: marching rows and their rounds counted."""

import math
import unittest

from samples import assert_refused, marched_seed_by_seed, marching_rows
from sowring.errors import BadCount, BadRow, TooMany
from sowring.marching import (
    first_of_round, number_of_row, round_at, round_count, row_at, row_count, steps_of_round,
)

BAD_SEEDS = [-1, -2, 2001, 2002, 10 ** 69, -(10 ** 69)]

NO_ROWS = [
    [0], [0, 0], [1, 0], [2, 1, 0], [0, 1], [3], [1, 2], [1, 1, 1], [3, 3], [-1], [2, 1, -1], [-1, 1], [1, 0, 1],
    [4, 3, 1, 2], [0] * 5000, [1] * 100, [1999], [2001], [10 ** 69], [10 ** 69, -(10 ** 69)], [-(10 ** 69)], [True],
    [5, 4, 3, 2, 1, 1, 1], list(range(63, 0, -1)), [64] + list(range(62, 0, -1)), [62 - place for place in range(63)],
]


def step_of(seeds):
    return (math.isqrt(8 * seeds + 1) - 1) // 2


def round_of_row(row):
    rows = [row]
    now = marched_seed_by_seed(row)
    while now != row:
        rows.append(now)
        now = marched_seed_by_seed(now)
    return rows


def least_rows(seeds):
    """The least rows of all rounds, in order."""
    found = []
    seen = set()
    for row in marching_rows(seeds):
        if tuple(row) not in seen:
            found.append(row)
            seen.update([tuple(other) for other in round_of_row(row)])
    return found


class RowsTest(unittest.TestCase):
    def test_known_counts(self):
        self.assertEqual([row_count(seeds) for seeds in range(7)], [1, 1, 2, 1, 3, 3, 1])
        self.assertEqual([round_count(seeds) for seeds in range(9)], [1, 1, 1, 1, 1, 1, 1, 1, 2])

    def test_no_seeds_make_one_row_and_one_round(self):
        self.assertEqual((row_count(0), round_count(0)), (1, 1))
        self.assertEqual((row_at(0, 0), round_at(0, 0)), ([], []))
        self.assertEqual((number_of_row([]), steps_of_round([])), (0, 1))
        self.assertEqual(first_of_round([]), ([], 0))

    def test_rows_in_order(self):
        for seeds in list(range(40)) + [63]:
            rows = marching_rows(seeds)
            self.assertEqual(row_count(seeds), len(rows))
            self.assertEqual([row_at(seeds, number) for number in range(len(rows))], rows)
            self.assertEqual([number_of_row(row) for row in rows], list(range(len(rows))))

    def test_rows_of_many_seeds(self):
        for seeds in (1000, 1953, 1984, 1999, 2000):
            k = step_of(seeds)
            count = math.comb(k + 1, seeds - k * (k + 1) // 2)
            self.assertEqual(row_count(seeds), count)
            rows = [row_at(seeds, number) for number in sorted({0, 1 % count, count // 3, count - 1})]
            self.assertEqual(rows, sorted(rows))
            for row in rows:
                self.assertEqual(sum(row), seeds)
                added = [held - (k - place) for place, held in enumerate(row + [0] * (k + 1 - len(row)))]
                self.assertEqual(set(added) - {0, 1}, set())
                self.assertEqual(row_at(seeds, number_of_row(row)), row)
            self.assertEqual(number_of_row(rows[0]), 0)
            self.assertEqual(number_of_row(rows[-1]), count - 1)

    def test_the_first_and_the_last_row_of_2000_seeds(self):
        self.assertEqual(row_at(2000, 0), list(range(62, 46, -1)) + [47 - place for place in range(47)])
        last = [63 - place for place in range(47)] + list(range(15, 0, -1))
        self.assertEqual(row_at(2000, row_count(2000) - 1), last)

    def test_numbers_of_no_row(self):
        for seeds in (0, 1, 2, 5, 50, 150, 151, 2000):
            for number in (-1, row_count(seeds), row_count(seeds) + 1, 10 ** 69, -(10 ** 69)):
                assert_refused(self, BadCount, row_at, seeds, number)

    def test_seeds_beyond_their_bounds(self):
        for seeds in BAD_SEEDS:
            assert_refused(self, BadCount, row_count, seeds)
            assert_refused(self, BadCount, round_count, seeds)
            for number in (0, -1, 10 ** 69):
                assert_refused(self, BadCount, row_at, seeds, number)
                assert_refused(self, BadCount, round_at, seeds, number)

    def test_lists_that_are_no_rows(self):
        for row in NO_ROWS:
            for function in (number_of_row, first_of_round, steps_of_round):
                assert_refused(self, BadRow, function, row)


class RoundsTest(unittest.TestCase):
    def test_all_rounds_in_order(self):
        for seeds in list(range(50)) + [74, 82]:
            leasts = least_rows(seeds)
            self.assertEqual(round_count(seeds), len(leasts))
            self.assertEqual([round_at(seeds, number) for number in range(len(leasts))], leasts)

    def test_each_row_comes_to_the_least_one(self):
        for seeds in list(range(30)) + [39, 50]:
            for row in marching_rows(seeds):
                rows = round_of_row(row)
                self.assertEqual(first_of_round(row), (min(rows), rows.index(min(rows))))
                self.assertEqual(steps_of_round(row), len(rows))

    def test_up_to_150_seeds(self):
        for seeds in (136, 143, 144, 149, 150):
            count = round_count(seeds)
            rows = [round_at(seeds, number) for number in sorted({0, 1 % count, count // 2, count - 1})]
            self.assertEqual(rows, sorted(rows))
            for row in rows:
                self.assertEqual(min(round_of_row(row)), row)
        self.assertEqual(round_at(150, 0), marching_rows(150)[0])
        leasts = least_rows(144)
        for number in (0, 1, 700, 1428, 1429):
            self.assertEqual(round_at(144, number), leasts[number])

    def test_round_counts_of_many_seeds(self):
        self.assertEqual(round_count(144), 1430)
        for seeds in (1953, 1968, 1984, 1999, 2000):
            k = step_of(seeds)
            added = seeds - k * (k + 1) // 2
            kept = 0
            for marches in range(k + 1):
                places = math.gcd(marches, k + 1)
                times = (k + 1) // places
                kept += 0 if added % times else math.comb(places, added // times)
            self.assertEqual(round_count(seeds) * (k + 1), kept)

    def test_rounds_of_many_seeds(self):
        for seeds in (1000, 1953, 1968, 1974, 1999, 2000):
            for number in sorted({0, row_count(seeds) // 5, row_count(seeds) - 1}):
                row = row_at(seeds, number)
                rows = round_of_row(row)
                self.assertEqual(first_of_round(row), (min(rows), rows.index(min(rows))))
                self.assertEqual(steps_of_round(row), len(rows))

    def test_rounds_shorter_than_the_row_has_places(self):
        self.assertEqual(steps_of_round([4, 2, 2]), 2)
        self.assertEqual(first_of_round([4, 2, 2]), ([3, 3, 1, 1], 1))
        self.assertEqual(first_of_round([3, 3, 1, 1]), ([3, 3, 1, 1], 0))

    def test_numbers_of_no_round(self):
        for seeds in (0, 1, 8, 50, 150, 151, 200, 2000):
            for number in (-1, round_count(seeds), round_count(seeds) + 1, 10 ** 69, -(10 ** 69)):
                assert_refused(self, BadCount, round_at, seeds, number)

    def test_151_seeds_and_more(self):
        for seeds in (151, 152, 153, 1000, 1999, 2000):
            for number in sorted({0, round_count(seeds) - 1}):
                assert_refused(self, TooMany, round_at, seeds, number)

    def test_the_answer_is_a_pair(self):
        answer = first_of_round([2])
        self.assertIs(type(answer), tuple)
        self.assertEqual([type(part) for part in answer], [list, int])


if __name__ == "__main__":
    unittest.main()
