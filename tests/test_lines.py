"""Points 71 to 74: lines and how they march."""

import unittest

from samples import MOST, all_boards, assert_refused, marched_seed_by_seed, marching_rows
from sowring.errors import BadCount, BadLine
from sowring.lines import ahead_of, comes_to, is_marching, line_behind, marched

NO_LINES = [
    [0], [0, 0], [0, 1], [1, 0], [0, 1, 0], [2, 0, 0], [-1], [1, -1], [-1, 1], [1, -1, 1], [101], [100, 1], [50, 0, 51],
    [1] * 101, [1] + [0] * 99 + [1], [0] * 101, [102, -1, 1], [10 ** 69], [1, 10 ** 69], [-(10 ** 69)],
    [10 ** 69, -(10 ** 69), 1], [True], [1, False, 1],
]

GREAT_LINES = [
    [100],
    [1] * 100,
    [1] + [0] * 98 + [1],
    [1] + [0] * 98 + [99],
    [99] + [0] * 98 + [1],
    [50, 50],
    [51] + [0] * 97 + [1, 48],
    [1, 0] * 49 + [1, 50],
    [3, 0, 0, 5, 1] * 11 + [1],
    [14, 12, 11, 10, 9, 9, 8, 7, 6, 5, 4, 3, 2],
    [13, 13, 12, 10, 9, 9, 8, 7, 6, 5, 4, 3, 1],
]


def small_lines():
    """All lines of 1 to 6 pits and of 1 to 7 seeds, and the empty one."""
    lines = [[]] + [[seeds] for seeds in range(1, 8)]
    for pits in range(2, 7):
        for seeds in range(1, 8):
            lines += [line for line in all_boards(pits, seeds) if line[0] > 0 and line[-1] > 0]
    return lines


def behind(line, steps):
    for step in range(steps):
        line = marched_seed_by_seed(line)
    return line


def behind_one(line):
    return line_behind(line, 1)


class MarchedTest(unittest.TestCase):
    def test_known_lines(self):
        self.assertEqual(marched([3, 1]), [2, 1, 1])
        self.assertEqual(marched([2, 0, 0, 5]), [1, 1, 5])
        self.assertEqual(marched([1, 0, 2]), [1, 2])
        self.assertEqual(marched([1]), [1])
        self.assertEqual(marched([3]), [1, 1, 1])
        self.assertEqual(marched([2, 1]), [2, 1])

    def test_the_empty_line_stays(self):
        self.assertEqual(marched([]), [])

    def test_small_and_great_lines(self):
        for line in small_lines() + GREAT_LINES:
            self.assertEqual(marched(line), marched_seed_by_seed(line))

    def test_just_100_pits_and_just_100_seeds(self):
        self.assertEqual(marched([100]), [1] * 100)
        self.assertEqual(marched([1] * 100), [2] + [1] * 98)
        self.assertEqual(marched([1] + [0] * 98 + [99]), [1] + [0] * 97 + [99])


class AheadOfTest(unittest.TestCase):
    def test_known_lines(self):
        self.assertEqual(ahead_of([1]), [[1]])
        self.assertEqual(ahead_of([2, 1, 1]), [[1, 1, 1, 1], [2, 1, 0, 1], [3, 1]])
        self.assertEqual(ahead_of([2, 0, 1]), [[1, 1, 0, 1]])
        self.assertEqual(ahead_of([1, 1]), [[1, 0, 1], [2]])

    def test_the_empty_line(self):
        self.assertEqual(ahead_of([]), [[]])

    def test_all_small_lines(self):
        lines = small_lines()
        for line in lines:
            if len(line) < 6:
                ahead = [other for other in lines if marched_seed_by_seed(other) == line]
                self.assertEqual(ahead_of(line), sorted(ahead))

    def test_great_lines(self):
        for line in GREAT_LINES + [behind(found, 5) for found in GREAT_LINES]:
            ahead = ahead_of(line)
            self.assertEqual(ahead, sorted(ahead))
            for other in ahead:
                self.assertEqual(marched(other), line)
                self.assertIn(other, ahead_of(marched(other)))

    def test_each_line_is_ahead_of_the_one_behind_it(self):
        for line in small_lines() + GREAT_LINES:
            self.assertEqual(ahead_of(marched_seed_by_seed(line)).count(line), 1)

    def test_lines_ahead_have_at_most_100_pits_too(self):
        self.assertEqual(ahead_of([1] * 100), [[100]])
        self.assertEqual(ahead_of([1] + [0] * 98 + [1]), [])
        self.assertEqual(ahead_of([1] + [0] * 97 + [1]), [[1] + [0] * 98 + [1]])
        self.assertEqual(len(ahead_of([1] * 99)), 99)
        self.assertEqual(ahead_of([1] * 99)[0], [1, 0] + [1] * 98)


class IsMarchingTest(unittest.TestCase):
    def test_known_rows(self):
        for line in ([], [1], [2], [1, 1], [2, 1], [3, 1], [2, 2], [2, 1, 1], [4, 3, 2, 1]):
            self.assertIs(is_marching(line), True, line)
        for line in ([3], [1, 2], [1, 1, 1], [4], [1, 0, 1], [3, 3], [4, 3, 1, 2], [1, 0, 0, 0, 0, 0, 1]):
            self.assertIs(is_marching(line), False, line)

    def test_all_small_lines(self):
        rows = [row for seeds in range(8) for row in marching_rows(seeds)]
        for line in small_lines():
            self.assertIs(is_marching(line), line in rows)

    def test_great_lines(self):
        for seeds in (91, 92, 99, 100):
            for row in marching_rows(seeds)[::50]:
                self.assertIs(is_marching(row), True)
        self.assertEqual([is_marching(line) for line in GREAT_LINES], [False] * 9 + [True] * 2)

    def test_a_line_comes_again_just_where_it_is_marching(self):
        for line in small_lines():
            now = marched_seed_by_seed(line)
            seen = []
            while now != line and now not in seen:
                seen.append(now)
                now = marched_seed_by_seed(now)
            self.assertIs(is_marching(line), now == line)

    def test_added_seeds_come_nearer_to_the_front(self):
        self.assertEqual(marched([3, 3, 2, 2]), [4, 3, 3])
        self.assertEqual(marched([4, 3, 3]), [4, 4, 1, 1])


class ComesToTest(unittest.TestCase):
    def assert_right(self, line):
        tail = 0
        row = line
        rows = marching_rows(sum(line))
        while row not in rows:
            row = marched_seed_by_seed(row)
            tail += 1
        steps = 1
        while behind(row, steps) != row:
            steps += 1
        self.assertEqual(comes_to(line), (tail, row, steps))

    def test_known_lines(self):
        self.assertEqual(comes_to([]), (0, [], 1))
        self.assertEqual(comes_to([1]), (0, [1], 1))
        self.assertEqual(comes_to([2]), (0, [2], 2))
        self.assertEqual(comes_to([3]), (2, [2, 1], 1))
        self.assertEqual(comes_to([1, 0, 0, 0, 1]), (3, [1, 1], 2))

    def test_all_small_lines(self):
        for line in small_lines():
            self.assert_right(line)

    def test_great_lines(self):
        for line in GREAT_LINES:
            self.assert_right(line)

    def test_rounds_shorter_than_the_row_has_places(self):
        self.assertEqual(comes_to([4, 2, 2]), (0, [4, 2, 2], 2))
        self.assertEqual(comes_to([3, 3, 1, 1]), (0, [3, 3, 1, 1], 2))

    def test_the_answer_is_a_triple(self):
        answer = comes_to([3, 1])
        self.assertIs(type(answer), tuple)
        self.assertEqual([type(part) for part in answer], [int, list, int])


class LineBehindTest(unittest.TestCase):
    def test_no_march_leaves_the_line(self):
        for line in small_lines() + GREAT_LINES:
            self.assertEqual(line_behind(line, 0), line)

    def test_march_by_march(self):
        for line in small_lines():
            for steps in range(1, 20):
                self.assertEqual(line_behind(line, steps), behind(line, steps))
        for line in GREAT_LINES:
            now = line
            for steps in range(1, 250):
                now = marched_seed_by_seed(now)
                self.assertEqual(line_behind(line, steps), now)

    def test_just_10_to_the_60_marches(self):
        for line in small_lines()[::3] + GREAT_LINES:
            tail, row, steps = comes_to(line)
            for marches in (MOST, MOST - 1, 10 ** 59 + 7):
                self.assertEqual(line_behind(line, marches), behind(row, (marches - tail) % steps))

    def test_marches_beyond_their_bounds(self):
        for line in ([], [1], [3, 0, 1], [100]):
            for steps in (-1, -2, MOST + 1, 10 ** 69, -(10 ** 69)):
                assert_refused(self, BadCount, line_behind, line, steps)


class RefusalsTest(unittest.TestCase):
    def test_lists_that_are_no_lines(self):
        for line in NO_LINES:
            for function in (marched, ahead_of, is_marching, comes_to, behind_one):
                assert_refused(self, BadLine, function, line)

    def test_no_line_goes_ahead_of_a_bad_count(self):
        for line in NO_LINES:
            for steps in (0, -1, MOST + 1):
                assert_refused(self, BadLine, line_behind, line, steps)


if __name__ == "__main__":
    unittest.main()
