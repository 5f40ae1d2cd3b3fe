"""Seeds that march along an open line of pits."""

from sowring.checks import MOST_LINE_PITS, check_count, check_line
from sowring.turning import turn_by, turn_to_itself


def most_marches():
    return 10 ** 60


def marched(line):
    check_line(line)
    return march(line)


def march(line):
    if line == []:
        return []
    others = line[1:] + [0] * (line[0] + 1 - len(line))
    return [seeds + 1 if place < line[0] else seeds for place, seeds in enumerate(others)]


def ahead_of(line):
    check_line(line)
    if line == []:
        return [[]]
    lines = [line_ahead(line, first) for first in range(1, held_from_first(line) + 1)]
    return [found for found in lines if len(found) <= MOST_LINE_PITS]


# Each pit into which a seed was put holds one now, so no march went beyond these.
def held_from_first(line):
    count = 0
    while count < len(line) and line[count] > 0:
        count += 1
    return count


def line_ahead(line, first):
    others = [seeds - 1 if place < first else seeds for place, seeds in enumerate(line)]
    return without_last_noughts([first] + others)


def without_last_noughts(numbers):
    count = len(numbers)
    while count > 0 and numbers[count - 1] == 0:
        count -= 1
    return numbers[:count]


def is_marching(line):
    check_line(line)
    return added_seeds(line) is not None


# For each pit of k, k - 1, .. 1, 0 whether it holds one seed more (1) or not (0); None where the line is no marching
# row. The seeds tell k, so those added need not be counted.
def added_seeds(line):
    k = greatest_step(sum(line))
    if len(line) > k + 1:
        return None
    pits = line + [0] * (k + 1 - len(line))
    added = [seeds - (k - place) for place, seeds in enumerate(pits)]
    if not all([more in (0, 1) for more in added]):
        return None
    return added


def greatest_step(seeds):
    k = 0
    while (k + 1) * (k + 2) // 2 <= seeds:
        k += 1
    return k


def row_with(added):
    k = len(added) - 1
    return without_last_noughts([k - place + more for place, more in enumerate(added)])


def comes_to(line):
    check_line(line)
    tail = 0
    row = list(line)
    while added_seeds(row) is None:
        row = march(row)
        tail += 1
    return (tail, row, turn_to_itself(added_seeds(row)))


# The marches can be too many to go one by one; a marching row is turned by all that are left at once.
def line_behind(line, steps):
    check_line(line)
    check_count(steps, 0, most_marches())
    now = list(line)
    left = steps
    while left > 0 and added_seeds(now) is None:
        now = march(now)
        left -= 1
    if left == 0:
        return now
    return row_with(turn_by(added_seeds(now), -left))
