"""Plans of deeds: what they lead to, and plans that lead from one board to another."""

from sowring.checks import check_alike, check_board, check_pit, is_pit
from sowring.errors import BadPlan, TooMany
from sowring.ring import sow_pit, take_back_at

MOST_GATHERED = 60


def walked(board, plan):
    check_board(board)
    now = list(board)
    for place, deed in enumerate(plan):
        if not can_be_done(now, deed):
            raise BadPlan("the plan has a deed that cannot be done", place)
        now = do_deed(now, deed)[0]
    return now


def can_be_done(board, deed):
    if not isinstance(deed, tuple) or len(deed) != 2:
        return False
    return deed[0] in ("sow", "back") and is_pit(board, deed[1]) and board[deed[1]] > 0


def do_deed(board, deed):
    if deed[0] == "sow":
        return sow_pit(board, deed[1])
    return take_back_at(board, deed[1])


def gathered(board, pit):
    check_board(board)
    check_pit(board, pit)
    check_few_seeds(board)
    return sowings_from(gathering(board, pit))


def check_few_seeds(board):
    if sum(board) > MOST_GATHERED:
        raise TooMany("the board has too many seeds")


# The standings from which one sows. Each sowing puts a seed into the wanted pit or brings seeds nearer to it, and no
# seed leaves it, so there is an end.
def gathering(board, pit):
    standings = []
    now = list(board)
    source = source_for(now, pit)
    while source is not None:
        standings.append((now, source))
        now = sow_pit(now, source)[0]
        source = source_for(now, pit)
    return standings


def sowings_from(standings):
    return [("sow", standing[1]) for standing in standings]


# Any pit with seeds would do; the nearest one makes for short plans.
def source_for(board, pit):
    for step in range(1, len(board)):
        source = (pit - step) % len(board)
        if board[source] > 0:
            return source
    return None


# Both boards can be gathered into one pit, and the gathering of the second one is gone backwards.
def way_to(board, other):
    check_board(board)
    check_board(other)
    check_alike(board, other)
    check_few_seeds(board)
    plan = sowings_from(gathering(board, 0))
    for standing in reversed(gathering(other, 0)):
        plan.append(("back", sow_pit(standing[0], standing[1])[1]))
    return plan
