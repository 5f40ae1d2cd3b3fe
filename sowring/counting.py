"""How many boards and rings there are, and the boards in the order of lists."""

from sowring.checks import check_board, check_count, check_sizes


def board_count(pits, seeds):
    check_sizes(pits, seeds)
    return count_boards(pits, seeds)


# Seeds below nought are asked for where a walk has none left: no board has so few.
def count_boards(pits, seeds):
    if seeds < 0:
        return 0
    count = 1
    for k in range(1, pits):
        count = count * (seeds + k) // k
    return count


# Boards with at least v seeds in the first pit are as many as boards of v seeds fewer.
# So boards are counted from the last one: places tells how many there are from the wanted one on.
def board_at(pits, seeds, number):
    check_sizes(pits, seeds)
    count = count_boards(pits, seeds)
    check_count(number, 0, count - 1)
    places = count - number
    left = seeds
    board = []
    for pits_left in range(pits, 1, -1):
        kept = least_seeds_for(pits_left, left, places)
        board.append(left - kept)
        places -= count_boards(pits_left, kept - 1)
        left = kept
    board.append(left)
    return board


# The seeds can be too many to try one by one, so the span is halved each time.
def least_seeds_for(pits, most, places):
    low = 0
    high = most
    while low < high:
        middle = (low + high) // 2
        if count_boards(pits, middle) >= places:
            high = middle
        else:
            low = middle + 1
    return low


def number_of(board):
    check_board(board)
    pits = len(board)
    left = sum(board)
    number = count_boards(pits, left) - 1
    for place, seeds in enumerate(board):
        left -= seeds
        number -= count_boards(pits - place, left - 1)
    return number


def next_board(board):
    check_board(board)
    last = last_with_seeds(board)
    # With all seeds in pit 0, or none at all, no pit can get more at the cost of one behind it.
    if last == 0:
        return None
    other = list(board)
    other[last - 1] += 1
    other[last] = 0
    other[-1] = board[last] - 1
    return other


def last_with_seeds(board):
    last = len(board) - 1
    while last > 0 and board[last] == 0:
        last -= 1
    return last


# Rings are as many as the boards that a turn leaves as they are, taken over all turns, on the average.
def ring_count(pits, seeds):
    check_sizes(pits, seeds)
    return sum([count_kept(pits, seeds, k) for k in range(pits)]) // pits


# A board that a turn leaves as it is repeats its first pits, as many as the turn and the ring have in common.
def count_kept(pits, seeds, k):
    first_pits = common_divisor(pits, k)
    times = pits // first_pits
    if seeds % times != 0:
        return 0
    return count_boards(first_pits, seeds // times)


def common_divisor(number, other):
    while other > 0:
        rest = number % other
        number = other
        other = rest
    return number
