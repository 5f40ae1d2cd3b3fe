"""What several test files use: boards small and great, lists that are no boards, and slow ways to the answers."""

import itertools

MOST = 10 ** 60

NO_BOARDS = [
    [],
    [5],
    [MOST],
    [0] * 25,
    [1] * 25,
    [1] * 100,
    [-1, 3],
    [3, -1],
    [0, 0, -1],
    [MOST, -1],
    [MOST + 1, -1],
    [MOST + 1, 0],
    [0, MOST + 1],
    [MOST, 1],
    [1] + [0] * 22 + [MOST],
    [MOST // 24 + 1] * 24,
    [10 ** 69, 10 ** 69],
    [-(10 ** 69), 10 ** 69],
    [True, 2],
    [2, False],
]

GREAT_BOARDS = [
    [MOST, 0],
    [0, MOST],
    [MOST // 2, MOST // 2],
    [1, MOST - 1],
    [MOST] + [0] * 23,
    [0] * 23 + [MOST],
    [MOST // 25] * 24,
    [10 ** 58 + 7 * place * place for place in range(24)],
    [10 ** (2 * place) for place in range(24)],
    [10 ** 30 * (place % 3) + place % 5 for place in range(24)],
    [3 * 10 ** 40, 10 ** 59 + 1, 10 ** 59, 17, 2 * 10 ** 40],
]


def all_boards(pits, seeds):
    """All boards in the order of lists, found by going through all cuts of the seeds."""
    boards = []
    for cuts in itertools.combinations(range(seeds + pits - 1), pits - 1):
        ends = (-1,) + cuts + (seeds + pits - 1,)
        boards.append([ends[k + 1] - ends[k] - 1 for k in range(pits)])
    return sorted(boards)


def small_boards():
    """All boards of 2 to 5 pits and of 0 to 7 seeds."""
    return [board for pits in range(2, 6) for seeds in range(8) for board in all_boards(pits, seeds)]


def small_standings():
    return [(board, pit) for board in small_boards() for pit in range(len(board)) if board[pit] > 0]


def sown_seed_by_seed(board, pit):
    other = list(board)
    hand = other[pit]
    other[pit] = 0
    place = pit
    while hand > 0:
        place = place + 1 if place + 1 < len(other) else 0
        other[place] += 1
        hand -= 1
    return (other, place)


def taken_back_seed_by_seed(board, pit):
    other = list(board)
    hand = 0
    place = pit
    while other[place] > 0:
        other[place] -= 1
        hand += 1
        place = place - 1 if place > 0 else len(other) - 1
    other[place] = hand
    return (other, place)


def turned_once(board):
    return [board[-1]] + board[:-1]


def all_turns(board):
    """The board turned by 0, 1 and so on, as often as it has pits."""
    turns = [list(board)]
    while len(turns) < len(board):
        turns.append(turned_once(turns[-1]))
    return turns
