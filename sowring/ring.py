"""Sowing a pit, taking back at a pit, and going on from a standing."""

from sowring.checks import check_count, check_standing

FARTHEST = 1000


def sown(board, pit):
    check_standing(board, pit)
    return sow_pit(board, pit)


def taken_back(board, pit):
    check_standing(board, pit)
    return take_back_at(board, pit)


def gone_on(board, pit, steps):
    check_standing(board, pit)
    check_count(steps, -FARTHEST, FARTHEST)
    standing = (list(board), pit)
    for step in range(abs(steps)):
        if steps > 0:
            standing = sow_pit(standing[0], standing[1])
        else:
            standing = take_back_at(standing[0], standing[1])
    return standing


# The seeds can be too many to put one by one, so those of the whole rounds are put together.
def sow_pit(board, pit):
    pits = len(board)
    rounds = board[pit] // pits
    over = board[pit] % pits
    other = [seeds + rounds for seeds in board]
    other[pit] = rounds
    last = pit
    for step in range(over):
        last = (last + 1) % pits
        other[last] += 1
    return (other, last)


# No pit is found empty in the rounds that the poorest pit lasts, so these are taken together;
# in the round behind them the poorest pits are the empty ones.
def take_back_at(board, pit):
    pits = len(board)
    rounds = min(board)
    other = [seeds - rounds for seeds in board]
    taken = rounds * pits
    place = pit
    while other[place] > 0:
        other[place] -= 1
        taken += 1
        place = (place - 1) % pits
    other[place] = taken
    return (other, place)
