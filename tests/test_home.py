"""Points 91 to 94: yards, and seeds brought home."""

import itertools
import unittest

from samples import assert_refused
from sowring.errors import BadCount, BadPit, BadYard
from sowring.home import brought_home, home_yard, less_by_one, more_by_one, sown_home

NO_YARDS = [
    [0], [0, 0], [1, 0], [0, 2, 0], [-1], [1, -1], [-1, 1], [10001], [1, 10000], [10000, 1], [0] * 200, [0] * 200 + [1],
    [1] * 201, [10 ** 69], [0, 10 ** 69], [-(10 ** 69)], [10 ** 69, -(10 ** 69), 1], [10001, -1, 1], [True], [False, 2],
]

NO_HOME_YARDS = [[2], [1, 1], [0, 1], [0, 0, 1], [10000], [0] * 199 + [1], [0] * 199 + [200], [1] * 200, [50] * 200]


def unsown(yard):
    """The yard from which one sowing leads to this one, of a seed more: the nearest empty pit is filled."""
    pit = 1
    while pit <= len(yard) and yard[pit - 1] > 0:
        pit += 1
    return [seeds - 1 for seeds in yard[:pit - 1]] + [pit] + yard[pit:]


def home_yards(most):
    yards = [[]]
    while len(yards) <= most:
        yards.append(unsown(yards[-1]))
    return yards


def sown_seed_by_seed(yard, pit):
    others = list(yard)
    others[pit - 1] = 0
    for nearer in range(1, pit):
        others[nearer - 1] += 1
    while others and others[-1] == 0:
        others.pop()
    return others


def plans_home(yard):
    """All plans that bring all seeds home."""
    if not yard:
        return [[]]
    plans = []
    for pit in range(1, len(yard) + 1):
        if yard[pit - 1] == pit:
            plans += [[pit] + plan for plan in plans_home(sown_seed_by_seed(yard, pit))]
    return plans


def small_yards():
    yards = [[]]
    for pits in range(1, 5):
        yards += [list(held) for held in itertools.product(range(5), repeat=pits) if held[-1] > 0]
    return yards


def sown_nearest(yard):
    return sown_home(yard, 1)


class SownHomeTest(unittest.TestCase):
    def test_known_yards(self):
        self.assertEqual(sown_home([1], 1), [])
        self.assertEqual(sown_home([0, 2], 2), [1])
        self.assertEqual(sown_home([1, 2], 1), [0, 2])
        self.assertEqual(sown_home([1, 2], 2), [2])
        self.assertEqual(sown_home([0, 0, 3, 4], 3), [1, 1, 0, 4])
        self.assertEqual(sown_home([7, 0, 0, 4], 4), [8, 1, 1])

    def test_all_small_yards(self):
        for yard in small_yards():
            for pit in range(1, len(yard) + 1):
                if yard[pit - 1] == pit:
                    self.assertEqual(sown_home(yard, pit), sown_seed_by_seed(yard, pit))
                else:
                    assert_refused(self, BadPit, sown_home, yard, pit)

    def test_the_two_hundredth_pit(self):
        self.assertEqual(sown_home([0] * 199 + [200], 200), [1] * 199)
        self.assertEqual(sown_home([1] + [0] * 198 + [9999], 1), [0] * 199 + [9999])
        assert_refused(self, BadPit, sown_home, [0] * 199 + [199], 200)

    def test_numbers_that_are_no_pits(self):
        for yard in ([], [1], [0, 2], [1, 2, 3], [0] * 199 + [200]):
            for pit in (0, -1, -2, len(yard) + 1, len(yard) + 2, 201, 10 ** 69, -(10 ** 69)):
                assert_refused(self, BadPit, sown_home, yard, pit)


class HomeYardTest(unittest.TestCase):
    def test_known_yards(self):
        wanted = [[], [1], [0, 2], [1, 2], [0, 1, 3], [1, 1, 3], [0, 0, 2, 4], [1, 0, 2, 4]]
        self.assertEqual([home_yard(seeds) for seeds in range(8)], wanted)

    def test_all_numbers_of_seeds(self):
        for seeds, yard in enumerate(home_yards(10000)):
            if seeds < 300 or seeds % 97 == 0 or seeds > 9990:
                self.assertEqual(home_yard(seeds), yard)

    def test_no_other_small_yard_can_be_brought_home(self):
        for yard in small_yards():
            self.assertEqual(len(plans_home(yard)), 1 if yard == home_yard(sum(yard)) else 0)

    def test_seeds_beyond_their_bounds(self):
        for seeds in (-1, -2, 10001, 10002, 10 ** 69, -(10 ** 69)):
            assert_refused(self, BadCount, home_yard, seeds)


class BroughtHomeTest(unittest.TestCase):
    def test_known_plans(self):
        self.assertEqual(brought_home([]), ("home", []))
        self.assertEqual(brought_home([1]), ("home", [1]))
        self.assertEqual(brought_home([0, 2]), ("home", [2, 1]))
        self.assertEqual(brought_home([0, 1, 3]), ("home", [3, 1, 2, 1]))

    def test_known_bars(self):
        self.assertEqual(brought_home([2]), ("barred", 1, 0))
        self.assertEqual(brought_home([0, 1]), ("barred", 1, 1))
        self.assertEqual(brought_home([0, 0, 2]), ("barred", 2, 2))
        self.assertEqual(brought_home([0, 2, 2]), ("barred", 2, 1))
        self.assertEqual(brought_home([0, 0, 6]), ("barred", 3, 2))

    def test_all_small_yards(self):
        for yard in small_yards():
            plans = plans_home(yard)
            if plans:
                self.assertEqual(brought_home(yard), ("home", plans[0]))
                continue
            word, pit, due = brought_home(yard)
            self.assertEqual(word, "barred")
            held = yard + [0] * 30
            wanted = home_yard(sum(yard)) + [0] * 30
            self.assertEqual(held[:pit - 1], wanted[:pit - 1])
            self.assertNotEqual(held[pit - 1], wanted[pit - 1])
            self.assertEqual(due, wanted[pit - 1])

    def test_many_seeds(self):
        for seeds in (100, 999, 5000, 9999, 10000):
            yard = home_yard(seeds)
            word, plan = brought_home(yard)
            self.assertEqual((word, len(plan)), ("home", seeds))
            for pit in plan[:500]:
                yard = sown_home(yard, pit)
            for pit in plan[500:]:
                self.assertEqual(yard[pit - 1], pit)
                yard = sown_seed_by_seed(yard, pit)
            self.assertEqual(yard, [])

    def test_far_pits(self):
        self.assertEqual(brought_home([0] * 199 + [1]), ("barred", 1, 1))
        yard = home_yard(9000)
        self.assertEqual(brought_home(yard + [0] * (199 - len(yard)) + [2])[0], "barred")
        last = len(yard)
        moved = yard[:-1] + [yard[-1] - 1, 1]
        self.assertEqual(brought_home(moved), ("barred", last, yard[-1]))
        farther = yard[:-1] + [0] + [yard[-1]]
        self.assertEqual(brought_home(farther), ("barred", last, yard[-1]))

    def test_a_pit_beyond_the_last_one_of_the_yard_is_never_the_nearest(self):
        for yard in small_yards():
            answer = brought_home(yard)
            if answer[0] == "barred":
                self.assertLessEqual(answer[1], len(yard))

    def test_the_answers_are_tuples(self):
        self.assertEqual([type(part) for part in brought_home([0, 2])], [str, list])
        self.assertEqual([type(part) for part in brought_home([2])], [str, int, int])
        self.assertIs(type(brought_home([])), tuple)


class OneMoreOrLessTest(unittest.TestCase):
    def test_all_numbers_of_seeds(self):
        yards = home_yards(10000)
        for seeds in list(range(200)) + list(range(200, 10000, 149)) + [9998, 9999]:
            self.assertEqual(more_by_one(yards[seeds]), yards[seeds + 1])
            self.assertEqual(less_by_one(yards[seeds + 1]), yards[seeds])

    def test_the_empty_yard(self):
        self.assertEqual(more_by_one([]), [1])
        self.assertEqual(less_by_one([1]), [])
        assert_refused(self, BadYard, less_by_one, [])

    def test_10000_seeds(self):
        yard = home_yard(10000)
        assert_refused(self, BadCount, more_by_one, yard)
        self.assertEqual(more_by_one(less_by_one(yard)), yard)

    def test_yards_that_are_no_home_yards(self):
        for yard in NO_HOME_YARDS:
            assert_refused(self, BadYard, more_by_one, yard)
            assert_refused(self, BadYard, less_by_one, yard)


class RefusalsTest(unittest.TestCase):
    def test_lists_that_are_no_yards(self):
        for yard in NO_YARDS:
            for function in (brought_home, more_by_one, less_by_one, sown_nearest):
                assert_refused(self, BadYard, function, yard)
            for pit in (0, -1, 300):
                assert_refused(self, BadYard, sown_home, yard, pit)

    def test_the_greatest_yards_are_taken(self):
        self.assertEqual(brought_home([10000]), ("barred", 1, 0))
        self.assertEqual(brought_home([50] * 200), ("barred", 1, 0))
        self.assertEqual(brought_home([0] * 199 + [10000]), ("barred", 2, 1))


if __name__ == "__main__":
    unittest.main()
