"""What several test files use: boards small and great, lists that are no boards, and slow ways to the answers."""

import copy
import itertools

MOST = 10 ** 60

BAD_SIZES = [
    (1, 5), (0, 5), (-1, 5), (-24, 5), (25, 5), (26, 5), (1, 0), (25, 0), (10 ** 69, 5), (-(10 ** 69), 5),
    (2, -1), (24, -1), (3, MOST + 1), (24, MOST + 1), (2, 10 ** 69), (2, -(10 ** 69)), (1, -1), (25, MOST + 1),
]

GREAT_SIZES = [(2, MOST), (3, MOST), (5, MOST), (12, 10 ** 31 + 7), (23, MOST - 1), (24, MOST), (24, 24 * 10 ** 50)]

NO_BOARDS = [
    [],
    [5],
    [MOST],
    [0] * 25,
    [1] * 25,
    [1] * 100,
    [-1, 3],
    [3, -1],
    [0, 0, -1],
    [MOST, -1],
    [MOST + 1, -1],
    [MOST + 1, 0],
    [0, MOST + 1],
    [MOST, 1],
    [1] + [0] * 22 + [MOST],
    [MOST // 24 + 1] * 24,
    [10 ** 69, 10 ** 69],
    [-(10 ** 69), 10 ** 69],
    [True, 2],
    [2, False],
]

NO_TEXTS = [
    "", " ", "  ", "1  2", " 1 2", "1 2 ", "01 2", "1 02", "00 1", "1 00", "-1 2", "1 -2", "+1 2", "1 +2", "-0 1", "1 -",
    "a b", "1 a", "1,2", "1;2", "1.0 2", "1 2\n", "\n1 2", "1\n2", "1\t2", "1 2\t", "1_0 2", "0x1 2", "1e3 2", "[1, 2]",
    "1 2 x", "x", "-", "1 " + "0" * 70, "0" + "1" * 3000, "~", "1 2 ~", "1" * 100 + " 1a", "1 1/2", "sow 1", "12 3 4 -5",
    "0" * 3000, "\n", "1 2 3\n\n", "5 -0",
]

NO_BOARD_TEXTS = [
    "0", "5", "123456", " ".join(["0"] * 25), " ".join(["1"] * 100), "1" * 3999, "0 " + "9" * 3998, "1" + "0" * 60 + " 1",
    "1 1" + "0" * 60, "1" + "0" * 61 + " 0", "9" * 61 + " 0", "0 " + "9" * 62, "0 0 " + "7" * 4500, "1" * 5000 + " 5",
    "5" + "0" * 59 + " 5" + "0" * 59 + " 1",
]

# There are more than 1000 boards of as many pits and seeds.
MANY_BOARDS = [[1000, 0], [44, 0, 0], [17, 0, 0, 0], [3] + [0] * 23, [MOST, 0], [MOST] + [0] * 23]

# Boards with barred pits, among them sizes of which there are nearly or just 1000 boards.
GREATER_PLAYS = [
    ([0, 999], [0]),
    ([999, 0], [1]),
    ([998, 1], [1]),
    ([0, 43, 0], [0]),
    ([43, 0, 0], [1, 2]),
    ([20, 3, 20], [1, 2]),
    ([0, 0, 16, 0], [0]),
    ([1, 5, 5, 5], [3]),
    ([4] + [0] * 9, [5]),
    ([4] + [0] * 9, [1, 2, 3, 4, 5, 6, 7, 8, 9]),
    ([2] + [0] * 23, [23]),
    ([1] + [0] * 22 + [1], [0, 5, 22]),
]

GREAT_BOARDS = [
    [MOST, 0],
    [0, MOST],
    [MOST // 2, MOST // 2],
    [1, MOST - 1],
    [MOST] + [0] * 23,
    [0] * 23 + [MOST],
    [MOST // 25] * 24,
    [10 ** 58 + 7 * place * place for place in range(24)],
    [10 ** (2 * place) for place in range(24)],
    [10 ** 30 * (place % 3) + place % 5 for place in range(24)],
    [3 * 10 ** 40, 10 ** 59 + 1, 10 ** 59, 17, 2 * 10 ** 40],
]


def assert_refused(case, kind, function, *asked):
    """The refusal itself, for what else it is to hold."""
    handed = copy.deepcopy(asked)
    with case.subTest(function=function.__name__, asked=asked):
        with case.assertRaises(kind) as caught:
            function(*handed)
        case.assertIs(type(caught.exception), kind)
        case.assertEqual(caught.exception.called(), kind.__name__)
        case.assertEqual(handed, asked)
        return caught.exception


def no_pits(board):
    return [-1, -2, -len(board), len(board), len(board) + 1, 10 ** 69, -(10 ** 69)]


def no_barred_pits(board):
    """Lists that are no barred pits of a board of three pits or more."""
    last = len(board) - 1
    return [
        [], list(range(len(board))), [1, 0], [last, 0], [0, 0], [1, 1], [0, 1, 1], [0, 2, 1], [-1], [-1, 0],
        [len(board)], [0, len(board)], [10 ** 69], [-(10 ** 69)], [0, -1], [len(board), 0],
        list(range(len(board))) + [last], list(range(last, 0, -1)),
    ]


def barred_choices(pits):
    """All lists of one pit or more, but not of all."""
    choices = []
    for count in range(1, pits):
        choices += [list(choice) for choice in itertools.combinations(range(pits), count)]
    return choices


def small_plays():
    """Small boards, each with all lists of barred pits."""
    plays = []
    for pits, seeds in [(2, 0), (2, 6), (3, 0), (3, 4), (4, 3), (5, 2)]:
        plays += [(board, barred) for board in all_boards(pits, seeds) for barred in barred_choices(pits)]
    return plays


def sowings_seed_by_seed(board, barred=()):
    """The boards to which one sowing leads, by their pits."""
    free = [pit for pit in range(len(board)) if board[pit] > 0 and pit not in barred]
    return {pit: sown_seed_by_seed(board, pit)[0] for pit in free}


def reached_seed_by_seed(board, barred=()):
    """All boards that the board leads to by sowings, with the fewest sowings that lead to each."""
    fewest = {tuple(board): 0}
    waiting = [board]
    while waiting:
        now = waiting.pop(0)
        for other in sowings_seed_by_seed(now, barred).values():
            if tuple(other) not in fewest:
                fewest[tuple(other)] = fewest[tuple(now)] + 1
                waiting.append(other)
    return fewest


def marched_seed_by_seed(line):
    if not line:
        return []
    others = list(line[1:])
    for seed in range(line[0]):
        if seed == len(others):
            others.append(0)
        others[seed] += 1
    return others


def marching_rows(seeds):
    """All marching rows in the order of lists, by putting one seed more into all choices of pits."""
    k = 0
    while (k + 1) * (k + 2) // 2 <= seeds:
        k += 1
    rows = []
    for chosen in itertools.combinations(range(k + 1), seeds - k * (k + 1) // 2):
        row = [k - place + (1 if place in chosen else 0) for place in range(k + 1)]
        rows.append(row if row[-1] > 0 else row[:-1])
    return sorted(rows)


def all_boards(pits, seeds):
    """All boards in the order of lists, found by going through all cuts of the seeds."""
    boards = []
    for cuts in itertools.combinations(range(seeds + pits - 1), pits - 1):
        ends = (-1,) + cuts + (seeds + pits - 1,)
        boards.append([ends[k + 1] - ends[k] - 1 for k in range(pits)])
    return sorted(boards)


def small_boards():
    """All boards of 2 to 5 pits and of 0 to 7 seeds."""
    return [board for pits in range(2, 6) for seeds in range(8) for board in all_boards(pits, seeds)]


def small_standings():
    return [(board, pit) for board in small_boards() for pit in range(len(board)) if board[pit] > 0]


def sown_seed_by_seed(board, pit):
    other = list(board)
    hand = other[pit]
    other[pit] = 0
    place = pit
    while hand > 0:
        place = place + 1 if place + 1 < len(other) else 0
        other[place] += 1
        hand -= 1
    return (other, place)


def taken_back_seed_by_seed(board, pit):
    other = list(board)
    hand = 0
    place = pit
    while other[place] > 0:
        other[place] -= 1
        hand += 1
        place = place - 1 if place > 0 else len(other) - 1
    other[place] = hand
    return (other, place)


def turned_once(board):
    return [board[-1]] + board[:-1]


def all_turns(board):
    """The board turned by 0, 1 and so on, as often as it has pits."""
    turns = [list(board)]
    while len(turns) < len(board):
        turns.append(turned_once(turns[-1]))
    return turns
