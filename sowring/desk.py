"""Questions about a board, put and answered in a text."""

from sowring.barred import ends_of, longest_play
from sowring.counting import number_of
from sowring.errors import BadText, SowError
from sowring.hands import who_wins
from sowring.home import brought_home, home_yard
from sowring.least import least_way
from sowring.lines import comes_to, line_behind, without_last_noughts
from sowring.ring import gone_on, sown, taken_back
from sowring.rounds import LONGEST, laps_of, round_of
from sowring.texts import MOST_FIGURES, is_number, read_board
from sowring.turning import least_turn
from sowring.ways import gathered, way_to


def tell_sown(board, numbers):
    answer = sown(board, numbers[0])
    return ("sown", answer[0], answer[1])


def tell_back(board, numbers):
    answer = taken_back(board, numbers[0])
    return ("back", answer[0], answer[1])


def tell_on(board, numbers):
    answer = gone_on(board, numbers[0], numbers[1])
    return ("on", answer[0], answer[1])


def tell_number(board, numbers):
    return ("number", number_of(board))


def tell_ring(board, numbers):
    answer = least_turn(board)
    return ("ring", answer[0], answer[1])


def tell_round(board, numbers):
    standings = round_of(board, numbers[0], LONGEST)
    return ("round", len(standings), laps_of(standings))


def tell_gather(board, numbers):
    return ("plan", gathered(board, numbers[0]))


def tell_to(board, numbers):
    return ("plan", way_to(board, numbers))


def tell_least(board, numbers):
    return ("least", least_way(board, numbers)[0])


def tell_ends(board, numbers):
    return ("ends", ends_of(board, numbers))


def tell_wins(board, numbers):
    answer = who_wins(board, numbers)
    return ("wins", answer[0], answer[1])


def tell_longest(board, numbers):
    return ("longest", longest_play(board, numbers)[0])


def tell_march(board, numbers):
    return ("line", line_behind(as_line(board), numbers[0]))


def tell_marching(board, numbers):
    answer = comes_to(as_line(board))
    return ("marching", answer[0], answer[1], answer[2])


def as_line(board):
    first = 0
    while first < len(board) and board[first] == 0:
        first += 1
    return without_last_noughts(board[first:])


def tell_home(board, numbers):
    return brought_home(without_last_noughts(board))


def tell_homes(board, numbers):
    return ("homes", home_yard(sum(board)))


TELLERS = {
    "sow": tell_sown,
    "back": tell_back,
    "on": tell_on,
    "number": tell_number,
    "ring": tell_ring,
    "round": tell_round,
    "gather": tell_gather,
    "to": tell_to,
    "least": tell_least,
    "ends": tell_ends,
    "wins": tell_wins,
    "longest": tell_longest,
    "march": tell_march,
    "marching": tell_marching,
    "home": tell_home,
    "homes": tell_homes,
}

ONE_NUMBER = ("sow", "back", "round", "gather", "march")
BOARD_NUMBERS = ("to", "least")
ANY_NUMBERS = ("ends", "wins", "longest")


# The same question can stand in many lines, so each is asked once; each line gets an answer of its own.
def answers_to(text):
    lines = text.split("\n")
    board = read_board(lines[0])
    questions = lines[1:]
    if len(questions) > 0 and questions[-1] == "":
        questions.pop()
    answers = {}
    for question in questions:
        if question not in answers:
            answers[question] = answer_to(board, question)
    return [copy_of(answers[question]) for question in questions]


def copy_of(value):
    if isinstance(value, list):
        return [copy_of(part) for part in value]
    if isinstance(value, tuple):
        return tuple([copy_of(part) for part in value])
    return value


def answer_to(board, question):
    words = question.split(" ")
    try:
        return tell(board, words[0], words[1:])
    except SowError as refusal:
        return ("refused", refusal.called())


def tell(board, word, texts):
    if word not in TELLERS or not is_count(board, word, len(texts)):
        raise BadText("this is no question")
    numbers = [read_number(texts[place], word == "on" and place == 1) for place in range(len(texts))]
    return TELLERS[word](board, numbers)


def is_count(board, word, count):
    if word in ANY_NUMBERS:
        return True
    if word in BOARD_NUMBERS:
        return count == len(board)
    if word == "on":
        return count == 2
    return count == (1 if word in ONE_NUMBER else 0)


def read_number(text, below):
    if below and text.startswith("-") and text != "-0":
        return -read_number(text[1:], False)
    if not is_number(text) or len(text) > MOST_FIGURES:
        raise BadText("this is no number")
    return int(text)
