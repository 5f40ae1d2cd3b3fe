"""Going by sowings through all boards that they lead to, and ways of as few sowings as can be."""

from sowring.checks import check_alike, check_board
from sowring.counting import count_boards
from sowring.errors import TooMany
from sowring.ring import sow_pit

MOST_BOARDS = 1000


def least_way(board, other):
    check_board(board)
    check_board(other)
    check_alike(board, other)
    check_few_boards(board)
    pits = list(range(len(board)))
    goal = tuple(other)
    levels = [[tuple(board)]]
    came_from = {tuple(board): None}
    # Sowings lead from each board to each other one, so the goal is come to.
    while goal not in came_from:
        levels.append(next_level(levels[-1], pits, came_from))
    return (plan_to(goal, came_from), [rising_boards(level) for level in levels])


def check_few_boards(board):
    if count_boards(len(board), sum(board)) > MOST_BOARDS:
        raise TooMany("there are too many boards of as many pits and seeds")


# Boards are held as tuples here, so that they can be keys. Each new one is entered into came_from with the board that
# led to it and the pit that was sown.
def next_level(level, pits, came_from):
    found = []
    for board in level:
        for step in sowings_of(board, pits):
            if step[1] not in came_from:
                came_from[step[1]] = (board, step[0])
                found.append(step[1])
    return found


def sowings_of(board, pits):
    return [(pit, tuple(sow_pit(board, pit)[0])) for pit in pits if board[pit] > 0]


def plan_to(goal, came_from):
    plan = []
    origin = came_from[goal]
    while origin is not None:
        plan.append(("sow", origin[1]))
        origin = came_from[origin[0]]
    plan.reverse()
    return plan


def rising_boards(boards):
    return [list(board) for board in sorted(boards)]
