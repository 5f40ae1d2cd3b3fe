"""Points 101 to 104: home yards of any number of seeds."""

import itertools
import math
import unittest

from samples import MOST, assert_refused
from sowring.errors import BadCount, BadPit, BadYard
from sowring.home import home_yard
from sowring.homes import again_after, first_pits, seeds_for, wanted_from

NO_NUMBERS = [
    [2], [-1], [0, 3], [1, -1], [0, 0, 4], [0] * 61, [1] * 61, [0] * 59 + [61], [2] + [0] * 59, [10 ** 69],
    [0, 10 ** 69], [-(10 ** 69)], [0] * 61 + [-1], [True], [0, False], list(range(2, 62)),
]


def padded(yard, pits):
    return (yard + [0] * pits)[:pits]


def far_yard(seeds):
    """A home yard made from the other side: the number of sowings from each pit on, as sums of a pit's own."""
    yard = []
    while seeds > 0:
        pit = len(yard) + 1
        beyond = seeds - (seeds + pit) // (pit + 1)
        yard.append(pit * (seeds - beyond) - beyond)
        seeds = beyond
    return yard


class FirstPitsTest(unittest.TestCase):
    def test_known_pits(self):
        self.assertEqual(first_pits(4, 3), [0, 1, 3])
        self.assertEqual(first_pits(4, 2), [0, 1])
        self.assertEqual(first_pits(4, 5), [0, 1, 3, 0, 0])

    def test_no_seeds_and_no_pits(self):
        self.assertEqual(first_pits(0, 0), [])
        self.assertEqual(first_pits(0, 200), [0] * 200)
        self.assertEqual(first_pits(MOST, 0), [])
        self.assertEqual(first_pits(7, 1), [1])

    def test_all_small_numbers_of_seeds(self):
        for seeds in list(range(400)) + [9999, 10000]:
            for pits in (1, 2, 10, 30, 200):
                self.assertEqual(first_pits(seeds, pits), padded(home_yard(seeds), pits))

    def test_more_seeds_than_a_yard_may_hold(self):
        for seeds in (10001, 12000, 12345):
            self.assertEqual(first_pits(seeds, 200), padded(far_yard(seeds), 200))

    def test_just_10_to_the_60_seeds(self):
        for seeds in (MOST, MOST - 1, 10 ** 59 + 12345):
            held = first_pits(seeds, 200)
            self.assertEqual(len(held), 200)
            self.assertTrue(all([0 <= number <= place + 1 for place, number in enumerate(held)]))
            sowings = seeds
            for place, number in enumerate(held):
                pit = place + 1
                own = (sowings + number) // (pit + 1)
                self.assertEqual(own * (pit + 1), sowings + number)
                sowings -= own
            for pits in (1, 20, 199):
                self.assertEqual(first_pits(seeds, pits), held[:pits])

    def test_numbers_beyond_their_bounds(self):
        for seeds in (-1, -2, MOST + 1, 10 ** 69, -(10 ** 69)):
            for pits in (0, 1, 200, 201, -1):
                assert_refused(self, BadCount, first_pits, seeds, pits)
        for pits in (-1, -2, 201, 202, 10 ** 69, -(10 ** 69)):
            for seeds in (0, 5, MOST):
                assert_refused(self, BadCount, first_pits, seeds, pits)


class WantedFromTest(unittest.TestCase):
    def test_known_numbers(self):
        self.assertEqual([wanted_from(pit) for pit in range(1, 11)], [1, 2, 4, 6, 10, 12, 18, 22, 30, 34])

    def test_the_least_seeds_of_each_near_pit(self):
        yards = [padded(home_yard(seeds), 60) for seeds in range(1200)]
        for pit in range(1, 60):
            least = min([seeds for seeds in range(1200) if yards[seeds][pit - 1] > 0])
            self.assertEqual(wanted_from(pit), least)
            for seeds in range(least, 1200):
                self.assertTrue(any(far_yard(seeds)[pit - 1:]))

    def test_far_pits(self):
        for pit in (100, 199, 200):
            seeds = wanted_from(pit)
            self.assertEqual(first_pits(seeds, pit)[pit - 1], pit)
            self.assertEqual(first_pits(seeds - 1, pit)[pit - 1], 0)
        for pit in (500, 1999, 2000):
            seeds = wanted_from(pit)
            self.assertEqual(len(far_yard(seeds)), pit)
            self.assertEqual(len(far_yard(seeds - 1)), pit - 1)

    def test_pits_beyond_their_bounds(self):
        for pit in (0, -1, 2001, 2002, 10 ** 69, -(10 ** 69)):
            assert_refused(self, BadPit, wanted_from, pit)


class AgainAfterTest(unittest.TestCase):
    def test_known_numbers(self):
        self.assertEqual([again_after(pits) for pits in range(7)], [1, 2, 6, 12, 60, 60, 420])

    def test_all_numbers_of_pits(self):
        for pits in range(201):
            self.assertEqual(again_after(pits), math.lcm(*range(1, pits + 2)))

    def test_first_pits_are_alike_just_then(self):
        for pits in range(5):
            for seeds in range(70):
                for other in range(seeds, 140):
                    alike = first_pits(seeds, pits) == first_pits(other, pits)
                    self.assertEqual(alike, (other - seeds) % again_after(pits) == 0)

    def test_pits_beyond_their_bounds(self):
        for pits in (-1, -2, 201, 202, 10 ** 69, -(10 ** 69)):
            assert_refused(self, BadCount, again_after, pits)


class SeedsForTest(unittest.TestCase):
    def stands_somewhere(self, numbers, pit):
        """Whether the numbers from this pit to the last one stand together in a home yard's pits."""
        count = len(numbers)
        for seeds in range(again_after(count)):
            if first_pits(seeds, count)[pit - 1:] == numbers[pit - 1:]:
                return True
        return False

    def assert_right(self, numbers):
        answer = seeds_for(numbers)
        found = [seeds for seeds in range(again_after(len(numbers))) if first_pits(seeds, len(numbers)) == numbers]
        if found:
            self.assertEqual(answer, ("seeds", found[0], again_after(len(numbers))))
            return
        farthest = max([pit for pit in range(1, len(numbers) + 1) if not self.stands_somewhere(numbers, pit)])
        self.assertEqual(answer, ("none", farthest))

    def test_known_answers(self):
        self.assertEqual(seeds_for([0]), ("seeds", 0, 2))
        self.assertEqual(seeds_for([1]), ("seeds", 1, 2))
        self.assertEqual(seeds_for([0, 1, 3]), ("seeds", 4, 12))
        self.assertEqual(seeds_for([1, 2, 3, 4]), ("none", 2))

    def test_the_empty_list(self):
        self.assertEqual(seeds_for([]), ("seeds", 0, 1))

    def test_all_lists_of_up_to_five_numbers(self):
        for count in range(1, 5):
            for numbers in itertools.product(*[range(pit + 1) for pit in range(1, count + 1)]):
                self.assert_right(list(numbers))
        for numbers in list(itertools.product(*[range(pit + 1) for pit in range(1, 6)]))[::7]:
            self.assert_right(list(numbers))

    def test_lists_that_end_with_0(self):
        self.assertEqual(seeds_for([1, 2, 0]), ("seeds", 3, 12))
        self.assertEqual(seeds_for([0] * 60), ("seeds", 0, again_after(60)))
        self.assertEqual(seeds_for([0, 1, 3] + [0] * 57), ("seeds", 4, again_after(60)))

    def test_60_numbers(self):
        for seeds in (1, 1000, 10000, 10 ** 20, 10 ** 26, 10 ** 40, MOST):
            for count in (30, 59, 60):
                numbers = first_pits(seeds, count)
                self.assertEqual(seeds_for(numbers), ("seeds", seeds % again_after(count), again_after(count)))

    def test_60_numbers_that_stand_nowhere(self):
        for seeds in (10 ** 20, 10 ** 40, MOST):
            for pit in (1, 2, 17, 30, 58, 59, 60):
                numbers = first_pits(seeds, 60)
                numbers[pit - 1] = (numbers[pit - 1] + 1) % (pit + 1)
                answer = seeds_for(numbers)
                if answer[0] == "seeds":
                    self.assertEqual(first_pits(answer[1], 60), numbers)
                else:
                    self.assertEqual(answer[0], "none")
                    self.assertLessEqual(answer[1], pit)

    def test_the_farthest_pit_is_told(self):
        for numbers, pit in [([1, 0, 1], 2), ([0, 0, 0, 1, 2], 4), ([0] * 8 + [1, 2], 8)]:
            self.assertEqual(seeds_for(numbers), ("none", pit))
            self.assertFalse(self.stands_somewhere(numbers, pit))
            self.assertTrue(self.stands_somewhere(numbers, pit + 1))

    def test_the_answers_are_tuples(self):
        self.assertEqual([type(part) for part in seeds_for([0, 1, 3])], [str, int, int])
        self.assertEqual([type(part) for part in seeds_for([1, 2, 3, 4])], [str, int])
        self.assertIs(type(seeds_for([])), tuple)

    def test_lists_that_are_none(self):
        for numbers in NO_NUMBERS:
            assert_refused(self, BadYard, seeds_for, numbers)

    def test_each_pit_full_is_taken(self):
        self.assertEqual(seeds_for(list(range(1, 61)))[0], "none")
        self.assertEqual(seeds_for([1, 2]), ("seeds", 3, 6))


if __name__ == "__main__":
    unittest.main()
