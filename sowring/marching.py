"""How many marching rows and rounds of them there are, and both in the order of lists."""

from sowring.checks import check_count, is_list_from_nought
from sowring.counting import common_divisor
from sowring.errors import BadRow, TooMany
from sowring.lines import added_seeds, greatest_step, row_with
from sowring.turning import turn_by, turn_to_itself

MOST_ROW_SEEDS = 2000
MOST_ROUND_SEEDS = 150


def row_count(seeds):
    check_count(seeds, 0, MOST_ROW_SEEDS)
    return choices(places_of(seeds), added_of(seeds))


def places_of(seeds):
    return greatest_step(seeds) + 1


def added_of(seeds):
    k = greatest_step(seeds)
    return seeds - k * (k + 1) // 2


# In how many ways so many of the places can be chosen.
def choices(places, chosen):
    if chosen > places:
        return 0
    count = 1
    for k in range(chosen):
        count = count * (places - k) // (k + 1)
    return count


# Rounds are as many as the rows that a number of marches leaves as they are, on the average over all such numbers.
def round_count(seeds):
    check_count(seeds, 0, MOST_ROW_SEEDS)
    places = places_of(seeds)
    return sum([count_kept(places, added_of(seeds), marches) for marches in range(places)]) // places


# Such a row repeats its first places, as many as the marches and the places have in common.
def count_kept(places, added, marches):
    first_places = common_divisor(places, marches)
    times = places // first_places
    if added % times != 0:
        return 0
    return choices(first_places, added // times)


# Rows of as many seeds stand in the order of their added seeds, place by place.
def row_at(seeds, number):
    check_count(number, 0, row_count(seeds) - 1)
    places_left = places_of(seeds)
    left = added_of(seeds)
    ahead = number
    added = []
    while places_left > 0:
        places_left -= 1
        without = choices(places_left, left)
        if ahead < without:
            added.append(0)
        else:
            added.append(1)
            ahead -= without
            left -= 1
    return row_with(added)


def number_of_row(row):
    added = added_in_row(row)
    left = sum(added)
    number = 0
    for place, more in enumerate(added):
        if more == 1:
            number += choices(len(added) - place - 1, left)
            left -= 1
    return number


def added_in_row(row):
    if not is_list_from_nought(row) or sum(row) > MOST_ROW_SEEDS:
        raise BadRow("this is no marching row")
    added = added_seeds(row)
    # A nought at the end is left out of a row, but it does not show in the added seeds.
    if added is None or row_with(added) != row:
        raise BadRow("this is no marching row")
    return added


def first_of_round(row):
    added = added_in_row(row)
    first = min([(turn_by(added, -marches), marches) for marches in range(len(added))])
    return (row_with(first[0]), first[1])


def steps_of_round(row):
    return turn_to_itself(added_in_row(row))


def round_at(seeds, number):
    check_count(number, 0, round_count(seeds) - 1)
    if seeds > MOST_ROUND_SEEDS:
        raise TooMany("there are too many seeds")
    return row_with(least_turns(places_of(seeds), added_of(seeds))[number])


# All lists of so many noughts and ones, some noughts among them, that are the least of their turns, in rising order.
# They are made place by place of beginnings, each with its least period: the next place repeats what stands a period
# ahead of it, or is greater and makes a new period. A list whose period does not fit into it is not the least one.
def least_turns(places, ones):
    beginnings = [([0], 1)]
    while len(beginnings[0][0]) < places:
        longer = []
        for beginning in beginnings:
            longer.extend(made_longer(beginning[0], beginning[1], places, ones))
        beginnings = longer
    return [beginning[0] for beginning in beginnings if places % beginning[1] == 0]


def made_longer(numbers, period, places, ones):
    again = numbers[len(numbers) - period]
    longer = [(numbers + [again], period)]
    if again == 0:
        longer.append((numbers + [1], len(numbers) + 1))
    return [found for found in longer if can_be_filled(found[0], places, ones)]


def can_be_filled(numbers, places, ones):
    left = ones - sum(numbers)
    return left >= 0 and left <= places - len(numbers)
