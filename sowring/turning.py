"""Boards turned round the ring."""

from sowring.checks import check_board


def turned(board, k):
    check_board(board)
    return turn_by(board, k)


def turn_by(board, k):
    pits = len(board)
    return [board[(place - k) % pits] for place in range(pits)]


# Pairs are ordered by their boards first, so of turns to the same board the least one is found.
def least_turn(board):
    check_board(board)
    return min([(turn_by(board, k), k) for k in range(len(board))])


def own_turn(board):
    check_board(board)
    return turn_to_itself(board)


def turn_to_itself(board):
    k = 1
    while turn_by(board, k) != board:
        k += 1
    return k
