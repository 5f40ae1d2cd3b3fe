"""Home yards of any number of seeds: what their pits hold, and which seeds it takes."""

from sowring.checks import check_count, is_list_from_nought, is_whole_from, most_seeds
from sowring.counting import common_divisor
from sowring.errors import BadPit, BadYard
from sowring.home import held_in, sowings_beyond

MOST_FIRST_PITS = 200
FARTHEST_PIT = 2000
MOST_NUMBERS = 60


def first_pits(seeds, pits):
    check_count(seeds, 0, most_seeds())
    check_count(pits, 0, MOST_FIRST_PITS)
    held = []
    sowings = seeds
    for pit in range(1, pits + 1):
        held.append(held_in(pit, sowings))
        sowings = sowings_beyond(pit, sowings)
    return held


# Where the pit is wanted for the first time it is sown once; going nearer to home, sowings counts the fewest sowings
# from a pit on that leave so many beyond it.
def wanted_from(pit):
    if not is_whole_from(pit, 1) or pit > FARTHEST_PIT:
        raise BadPit("the pit is out of its bounds")
    sowings = 1
    for nearer in range(pit - 1, 0, -1):
        sowings += (sowings + nearer - 1) // nearer
    return sowings


def again_after(pits):
    check_count(pits, 0, MOST_FIRST_PITS)
    multiple = 1
    for number in range(2, pits + 2):
        multiple = common_multiple(multiple, number)
    return multiple


def common_multiple(number, other):
    return number // common_divisor(number, other) * other


# From the last pit on nearer to home, least and step tell which numbers of sowings from beyond the pit leave there what
# is told. Those of them can be gone on with by which, with what the pit holds, it is sown a whole number of times.
def seeds_for(numbers):
    check_numbers(numbers)
    least = 0
    step = 1
    for pit in range(len(numbers), 0, -1):
        held = numbers[pit - 1]
        beyond = least_that_fits(least, step, pit, held)
        if beyond is None:
            return ("none", pit)
        least = beyond + (beyond + held) // pit
        step = common_multiple(step, pit) // pit * (pit + 1)
    return ("seeds", least, step)


def check_numbers(numbers):
    if not is_list_from_nought(numbers) or len(numbers) > MOST_NUMBERS:
        raise BadYard("this is no list of what the first pits hold")
    if any([number > place + 1 for place, number in enumerate(numbers)]):
        raise BadYard("a pit never holds more seeds than it is steps from home")


def least_that_fits(least, step, pit, held):
    for times in range(pit):
        beyond = least + step * times
        if (beyond + held) % pit == 0:
            return beyond
    return None
