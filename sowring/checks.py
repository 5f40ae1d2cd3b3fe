"""What the modules ask of the things handed in, and refuse where it does not hold."""

from sowring.errors import BadBoard, BadCount, BadPit, NoSeeds

FEWEST_PITS = 2
MOST_PITS = 24


def most_seeds():
    return 10 ** 60


# Python holds True and False for numbers; here they are none.
def is_whole(value):
    return isinstance(value, int) and not isinstance(value, bool)


def is_whole_from(value, least):
    return is_whole(value) and value >= least


def is_board(board):
    if not isinstance(board, list):
        return False
    if len(board) < FEWEST_PITS or len(board) > MOST_PITS:
        return False
    if not all([is_whole_from(seeds, 0) for seeds in board]):
        return False
    return sum(board) <= most_seeds()


def check_board(board):
    if not is_board(board):
        raise BadBoard("this is no board")


def check_pit(board, pit):
    if not is_whole_from(pit, 0) or pit >= len(board):
        raise BadPit("the board has no such pit")


def check_standing(board, pit):
    check_board(board)
    check_pit(board, pit)
    if board[pit] == 0:
        raise NoSeeds("the pit holds no seeds")


def check_count(number, least, most):
    if not is_whole_from(number, least) or number > most:
        raise BadCount("the number is out of its bounds")


def check_sizes(pits, seeds):
    check_count(pits, FEWEST_PITS, MOST_PITS)
    check_count(seeds, 0, most_seeds())
