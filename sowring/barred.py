"""Sowing where pits are barred: what can be come to, and how long it can go on."""

from sowring.checks import check_alike, check_barred, check_board
from sowring.least import check_few_boards, next_level, plan_to, rising_boards, sowings_of


def come_to(board, barred):
    check_play(board, barred)
    return rising_boards(list(walk_from(board, barred)))


def check_play(board, barred):
    check_board(board)
    check_barred(board, barred)
    check_few_boards(board)


# All boards that the board leads to, each with the one that led to it and the pit that was sown.
def walk_from(board, barred):
    pits = free_pits(board, barred)
    came_from = {tuple(board): None}
    level = [tuple(board)]
    while level:
        level = next_level(level, pits, came_from)
    return came_from


def free_pits(board, barred):
    return [pit for pit in range(len(board)) if pit not in barred]


def ends_of(board, barred):
    boards = come_to(board, barred)
    pits = free_pits(board, barred)
    return [found for found in boards if free_seeds(found, pits) == 0]


def free_seeds(board, pits):
    return sum([board[pit] for pit in pits])


def way_or_bar(board, other, barred):
    check_board(board)
    check_board(other)
    check_barred(board, barred)
    check_alike(board, other)
    check_few_boards(board)
    came_from = walk_from(board, barred)
    if tuple(other) in came_from:
        return ("way", plan_to(tuple(other), came_from))
    return ("barred", rising_boards(list(came_from)))


def longest_play(board, barred):
    check_play(board, barred)
    pits = free_pits(board, barred)
    ranks = ranks_from(board, barred)
    plan = []
    now = tuple(board)
    while ranks[now] > 0:
        step = step_to_rank(now, pits, ranks)
        plan.append(("sow", step[0]))
        now = step[1]
    return (plan, [(list(found), ranks[found]) for found in sorted(ranks)])


def ranks_from(board, barred):
    pits = free_pits(board, barred)
    ranks = {}
    for found in ends_first(board, barred):
        ranks[found] = max([ranks[step[1]] + 1 for step in sowings_of(found, pits)], default=0)
    return ranks


def step_to_rank(board, pits, ranks):
    steps = [step for step in sowings_of(board, pits) if ranks[step[1]] == ranks[board] - 1]
    return steps[0]


# All boards that the board leads to, each behind those to which itself leads: a sowing puts a seed into a barred pit,
# or else it brings seeds nearer to the next one.
def ends_first(board, barred):
    pits = free_pits(board, barred)
    steps = [steps_to_bar(board, barred, pit) for pit in pits]
    return sorted(list(walk_from(board, barred)), key=lambda found: seeds_and_steps(found, pits, steps))


def seeds_and_steps(board, pits, steps):
    return (free_seeds(board, pits), sum([board[pit] * steps[place] for place, pit in enumerate(pits)]))


def steps_to_bar(board, barred, pit):
    steps = 1
    while (pit + steps) % len(board) not in barred:
        steps += 1
    return steps
