"""Seeds that are brought home out of a yard of pits."""

from sowring.checks import MOST_YARD_SEEDS, check_count, check_yard, is_whole_from
from sowring.errors import BadPit, BadYard
from sowring.lines import without_last_noughts


def sown_home(yard, pit):
    check_yard(yard)
    if not is_whole_from(pit, 1) or pit > len(yard) or yard[pit - 1] != pit:
        raise BadPit("the pit may not be sown")
    return without_last_noughts(sow_home(yard, pit))


def sow_home(yard, pit):
    return [seeds + 1 for seeds in yard[:pit - 1]] + [0] + yard[pit:]


def home_yard(seeds):
    check_count(seeds, 0, MOST_YARD_SEEDS)
    return yard_of(seeds)


# Each sowing brings one seed home, so there are as many sowings as seeds. Each of those from beyond a pit puts one seed
# into it, and each of its own takes pit seeds out of it. So with sowings for both together,
# pit * sowings = (pit + 1) * those from beyond + what the pit holds, and it never holds more than pit.
def yard_of(seeds):
    yard = []
    sowings = seeds
    while sowings > 0:
        pit = len(yard) + 1
        yard.append(held_in(pit, sowings))
        sowings = sowings_beyond(pit, sowings)
    return yard


def held_in(pit, sowings):
    return pit * sowings % (pit + 1)


def sowings_beyond(pit, sowings):
    return pit * sowings // (pit + 1)


def brought_home(yard):
    check_yard(yard)
    due = yard_of(sum(yard))
    if yard == due:
        return ("home", plan_home(yard))
    pit = first_unlike(yard, due)
    return ("barred", pit, due[pit - 1])


# A pit that is passed over while it may be sown gets one seed too many, so the nearest one is sown.
def plan_home(yard):
    plan = []
    now = list(yard)
    left = sum(yard)
    while left > 0:
        pit = nearest_to_sow(now)
        plan.append(pit)
        now = sow_home(now, pit)
        left -= 1
    return plan


def nearest_to_sow(yard):
    pit = 1
    while yard[pit - 1] != pit:
        pit += 1
    return pit


# Both yards have as many seeds, so neither is the mere beginning of the other.
def first_unlike(yard, other):
    pit = 1
    while yard[pit - 1] == other[pit - 1]:
        pit += 1
    return pit


def check_home_yard(yard):
    check_yard(yard)
    if yard != yard_of(sum(yard)):
        raise BadYard("not all seeds of this yard can be brought home")


def more_by_one(yard):
    check_home_yard(yard)
    return home_yard(sum(yard) + 1)


def less_by_one(yard):
    check_home_yard(yard)
    if yard == []:
        raise BadYard("the yard has no seeds")
    return yard_of(sum(yard) - 1)
