"""Point 121: boards written as texts."""

import unittest

from samples import GREAT_BOARDS, MOST, NO_BOARDS, NO_BOARD_TEXTS, NO_TEXTS, assert_refused, small_boards
from sowring.errors import BadBoard, BadText
from sowring.texts import board_text, read_board


class ReadBoardTest(unittest.TestCase):
    def test_known_texts(self):
        self.assertEqual(read_board("2 0 1"), [2, 0, 1])
        self.assertEqual(read_board("0 0"), [0, 0])
        self.assertEqual(read_board("10 200 0 7"), [10, 200, 0, 7])
        self.assertEqual(read_board("1" + "0" * 60 + " 0"), [MOST, 0])

    def test_what_is_written_is_read(self):
        for board in small_boards()[::5] + GREAT_BOARDS:
            self.assertEqual(read_board(board_text(board)), board)
            self.assertEqual(read_board(" ".join([str(seeds) for seeds in board])), board)

    def test_the_answer_is_a_list_of_whole_numbers(self):
        board = read_board("3 0 " + "9" * 59)
        self.assertIs(type(board), list)
        self.assertEqual([type(seeds) for seeds in board], [int, int, int])

    def test_texts_that_are_not_so(self):
        for text in NO_TEXTS:
            assert_refused(self, BadText, read_board, text)

    def test_texts_that_make_no_board(self):
        for text in NO_BOARD_TEXTS:
            assert_refused(self, BadBoard, read_board, text)

    def test_a_bad_text_goes_ahead_of_a_bad_board(self):
        for text in ("05", "5 ", " 5", " ".join(["1"] * 30) + " -1", "9" * 70 + " 01", "-5", "9" * 70 + "  1"):
            assert_refused(self, BadText, read_board, text)


class BoardTextTest(unittest.TestCase):
    def test_known_boards(self):
        self.assertEqual(board_text([2, 0, 1]), "2 0 1")
        self.assertEqual(board_text([0, 0]), "0 0")
        self.assertEqual(board_text([MOST] + [0] * 23), "1" + "0" * 60 + " 0" * 23)

    def test_lists_that_are_no_boards(self):
        for board in NO_BOARDS:
            assert_refused(self, BadBoard, board_text, board)


if __name__ == "__main__":
    unittest.main()
