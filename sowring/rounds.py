"""Going on from a standing until it comes again."""

from sowring.checks import check_count, check_sizes, check_standing
from sowring.counting import board_at, common_divisor, count_boards, next_board
from sowring.errors import TooLong, TooMany
from sowring.ring import sow_pit

LONGEST = 20000
MOST_STANDINGS = 3000


def round_of(board, pit, most):
    check_round(board, pit, most)
    first = (list(board), pit)
    standings = [first]
    standing = sow_pit(board, pit)
    while standing != first:
        check_length(len(standings) + 1, most)
        standings.append(standing)
        standing = sow_pit(standing[0], standing[1])
    return standings


def check_round(board, pit, most):
    check_standing(board, pit)
    check_count(most, 1, LONGEST)


def check_length(length, most):
    if length > most:
        raise TooLong("the round has more standings than told")


def round_laps(board, pit, most):
    return laps_of(round_of(board, pit, most))


def laps_of(standings):
    pits = len(standings[0][0])
    return sum([standing[0][standing[1]] for standing in standings]) // pits


# A board with seeds in a told pit is any board of one seed fewer and this one seed.
def standing_count(pits, seeds):
    check_sizes(pits, seeds)
    return pits * count_boards(pits, seeds - 1)


def all_rounds(pits, seeds):
    if standing_count(pits, seeds) > MOST_STANDINGS:
        raise TooMany("there are too many standings")
    rounds = []
    seen = {}
    board = board_at(pits, seeds, 0)
    while board is not None:
        rounds.extend(new_rounds(board, seen))
        board = next_board(board)
    return rounds


# Standings come in rising order, so the first one seen of a round is its least one.
def new_rounds(board, seen):
    rounds = []
    for pit in range(len(board)):
        if board[pit] > 0 and (tuple(board), pit) not in seen:
            rounds.append((see_round(board, pit, seen), (list(board), pit)))
    return rounds


def see_round(board, pit, seen):
    standings = round_of(board, pit, MOST_STANDINGS)
    for standing in standings:
        seen[(tuple(standing[0]), standing[1])] = True
    return len(standings)


# Only the turn that leads from the first pit to this one can lead to the standing.
# A walk to the first turned standing is enough: the whole round is this walk again and again.
def one_ring_round(board, pit, most):
    check_round(board, pit, most)
    steps = 1
    standing = sow_pit(board, pit)
    while not is_turned(board, pit, standing):
        steps += 1
        check_length(steps, most)
        standing = sow_pit(standing[0], standing[1])
    k = (standing[1] - pit) % len(board)
    check_length(steps * (len(board) // common_divisor(len(board), k)), most)
    return (steps, k)


def is_turned(board, pit, standing):
    return standing[0][standing[1]:] + standing[0][:standing[1]] == board[pit:] + board[:pit]
