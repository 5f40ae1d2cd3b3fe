"""What the modules ask of the things handed in, and refuse where it does not hold."""

from sowring.errors import BadBoard, BadCount, BadLine, BadPit, BadPits, BadYard, NoSeeds, Unlike

FEWEST_PITS = 2
MOST_PITS = 24
MOST_LINE_PITS = 100
MOST_LINE_SEEDS = 100
MOST_YARD_PITS = 200
MOST_YARD_SEEDS = 10000


def most_seeds():
    return 10 ** 60


# Python holds True and False for numbers; here they are none.
def is_whole(value):
    return isinstance(value, int) and not isinstance(value, bool)


def is_whole_from(value, least):
    return is_whole(value) and value >= least


def is_list_from_nought(values):
    return isinstance(values, list) and all([is_whole_from(value, 0) for value in values])


def is_board(board):
    if not is_list_from_nought(board):
        return False
    if len(board) < FEWEST_PITS or len(board) > MOST_PITS:
        return False
    return sum(board) <= most_seeds()


def check_board(board):
    if not is_board(board):
        raise BadBoard("this is no board")


def is_pit(board, pit):
    return is_whole_from(pit, 0) and pit < len(board)


def check_pit(board, pit):
    if not is_pit(board, pit):
        raise BadPit("the board has no such pit")


def check_standing(board, pit):
    check_board(board)
    check_pit(board, pit)
    if board[pit] == 0:
        raise NoSeeds("the pit holds no seeds")


def check_alike(board, other):
    if len(board) != len(other) or sum(board) != sum(other):
        raise Unlike("the boards have other pits or seeds")


def is_rising(numbers):
    return all([numbers[place] < numbers[place + 1] for place in range(len(numbers) - 1)])


def check_barred(board, barred):
    if not isinstance(barred, list) or not all([is_pit(board, pit) for pit in barred]):
        raise BadPits("these are no pits of the board")
    if not is_rising(barred):
        raise BadPits("the barred pits do not rise")
    if len(barred) == 0 or len(barred) == len(board):
        raise BadPits("no pit is barred, or all are")


def check_line(line):
    if not is_list_from_nought(line) or len(line) > MOST_LINE_PITS or sum(line) > MOST_LINE_SEEDS:
        raise BadLine("this is no line")
    if len(line) > 0 and (line[0] == 0 or line[-1] == 0):
        raise BadLine("the line has a nought at an end")


def check_yard(yard):
    if not is_list_from_nought(yard) or len(yard) > MOST_YARD_PITS or sum(yard) > MOST_YARD_SEEDS:
        raise BadYard("this is no yard")
    if len(yard) > 0 and yard[-1] == 0:
        raise BadYard("the yard ends with a nought")


def check_count(number, least, most):
    if not is_whole_from(number, least) or number > most:
        raise BadCount("the number is out of its bounds")


def check_sizes(pits, seeds):
    check_count(pits, FEWEST_PITS, MOST_PITS)
    check_count(seeds, 0, most_seeds())
