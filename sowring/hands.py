"""Two hands that sow in turn: who makes the last sowing."""

from sowring.barred import check_play, ends_first, free_pits
from sowring.checks import check_barred, check_board
from sowring.least import check_few_boards, rising_boards, sowings_of


def who_wins(board, barred):
    check_play(board, barred)
    found = worths_from(board, barred)
    lost = rising_boards([other for other in found if found[other] == 0])
    if found[tuple(board)] == 0:
        return ("second", None, lost)
    return ("first", pit_to_worth(board, barred, found, 0), lost)


def worths(board, barred):
    check_play(board, barred)
    found = worths_from(board, barred)
    return [(list(other), found[other]) for other in sorted(found)]


# The worth of a board is that of those to which it leads, so these must be known ahead of it.
def worths_from(board, barred):
    pits = free_pits(board, barred)
    found = {}
    for other in ends_first(board, barred):
        found[other] = least_missing([found[step[1]] for step in sowings_of(other, pits)])
    return found


def least_missing(numbers):
    least = 0
    while least in numbers:
        least += 1
    return least


def pit_to_worth(board, barred, found, worth):
    pits = [step[0] for step in sowings_of(board, free_pits(board, barred)) if found[step[1]] == worth]
    return pits[0]


# Who makes the worths the same wins, and from the greater worth a sowing leads to each lesser one.
def side_by_side(board, barred, other, other_barred):
    check_board(board)
    check_board(other)
    check_barred(board, barred)
    check_barred(other, other_barred)
    check_few_boards(board)
    check_few_boards(other)
    found = worths_from(board, barred)
    worth = found[tuple(board)]
    other_found = worths_from(other, other_barred)
    other_worth = other_found[tuple(other)]
    if worth == other_worth:
        return None
    if worth > other_worth:
        return (0, pit_to_worth(board, barred, found, other_worth))
    return (1, pit_to_worth(other, other_barred, other_found, worth))
