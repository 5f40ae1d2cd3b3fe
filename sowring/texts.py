"""Boards written as texts."""

from sowring.checks import check_board, most_seeds
from sowring.errors import BadText

FIGURES = "0123456789"
MOST_FIGURES = 61


def read_board(text):
    words = text.split(" ")
    if not all([is_number(word) for word in words]):
        raise BadText("this is no text of a board")
    board = [number_or_too_many(word) for word in words]
    check_board(board)
    return board


def is_number(word):
    if word == "" or not all([sign in FIGURES for sign in word]):
        return False
    return word == "0" or word[0] != "0"


# Python reads only so many figures at once, but a number of so many is too great for a board anyway.
def number_or_too_many(word):
    if len(word) > MOST_FIGURES:
        return most_seeds() + 1
    return int(word)


def board_text(board):
    check_board(board)
    return " ".join([str(seeds) for seeds in board])
