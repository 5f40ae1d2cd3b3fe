"""Points 111 and 112: a book of deeds."""

import random
import unittest

from samples import MOST, NO_BOARDS, assert_refused, no_pits, sown_seed_by_seed, taken_back_seed_by_seed
from sowring.book import RingBook
from sowring.errors import BadBoard, BadPit, NoDeed, NoSeeds
from sowring.ways import walked


def repeats(boards):
    pairs = []
    for earlier in range(len(boards)):
        for later in range(earlier + 1, len(boards)):
            if boards[earlier] == boards[later]:
                pairs.append((earlier, later))
                break
    return pairs


class PlainBook:
    """A book that keeps all deeds with the boards behind them, and does all slowly."""

    def __init__(self, board):
        self.rows = [(None, None, 0, list(board))]
        self.kept = 1

    def done(self, word, pit):
        now = self.rows[self.kept - 1][3]
        if word == "sow":
            board, last = sown_seed_by_seed(now, pit)
            put = now[pit]
        else:
            board, last = taken_back_seed_by_seed(now, pit)
            put = -board[last]
        self.rows = self.rows[:self.kept] + [(word, pit, put, board)]
        self.kept += 1
        return last

    def told(self):
        rows = self.rows[:self.kept]
        boards = [row[3] for row in rows]
        plan = [(row[0], row[1]) for row in rows[1:]]
        return (boards[-1], plan, sum([row[2] for row in rows]), repeats(boards))


def told_by(book):
    return (book.board(), book.plan(), book.sown_in_all(), book.came_again())


class DeedsTest(unittest.TestCase):
    def test_a_new_book(self):
        book = RingBook([2, 0, 1])
        self.assertEqual(told_by(book), ([2, 0, 1], [], 0, []))

    def test_sow_and_back(self):
        book = RingBook([2, 0, 1])
        self.assertEqual(book.sow(0), 2)
        self.assertEqual(told_by(book), ([0, 1, 2], [("sow", 0)], 2, []))
        self.assertEqual(book.back(2), 0)
        self.assertEqual(told_by(book), ([2, 0, 1], [("sow", 0), ("back", 2)], 0, [(0, 2)]))
        self.assertEqual(book.back(0), 1)
        self.assertEqual(book.board(), [1, 2, 0])
        self.assertEqual(book.sown_in_all(), -2)

    def test_seeds_taken_some_rounds_later(self):
        book = RingBook([4, 2, 5])
        self.assertEqual(book.back(0), 1)
        self.assertEqual(told_by(book), ([1, 8, 2], [("back", 0)], -8, []))
        self.assertEqual(book.sow(1), 0)
        self.assertEqual(told_by(book), ([4, 2, 5], [("back", 0), ("sow", 1)], 0, [(0, 2)]))

    def test_great_boards(self):
        book = RingBook([MOST, 0])
        self.assertEqual(book.sow(0), 0)
        self.assertEqual(book.board(), [MOST // 2, MOST // 2])
        self.assertEqual(book.sow(1), 1)
        self.assertEqual(book.sown_in_all(), MOST + MOST // 2)
        self.assertEqual(book.back(1), 1)
        self.assertEqual(book.came_again(), [(1, 3)])
        self.assertEqual(book.sown_in_all(), MOST)

    def test_many_deeds_in_any_order(self):
        chance = random.Random(7)
        for pits, seeds in [(2, 3), (3, 4), (4, 3), (6, 12), (24, 2)]:
            board = [0] * pits
            for seed in range(seeds):
                board[chance.randrange(pits)] += 1
            book = RingBook(board)
            plain = PlainBook(board)
            for step in range(120):
                self.do_any(chance, book, plain)
                self.assertEqual(told_by(book), plain.told())
                self.assertEqual(walked(board, book.plan()), book.board())

    def do_any(self, chance, book, plain):
        deed = chance.choice(["sow", "sow", "back", "undo", "redo"])
        if deed == "undo" and plain.kept > 1:
            self.assertIsNone(book.undo())
            plain.kept -= 1
        elif deed == "redo" and plain.kept < len(plain.rows):
            self.assertIsNone(book.redo())
            plain.kept += 1
        elif deed in ("undo", "redo"):
            assert_refused(self, NoDeed, book.undo if deed == "undo" else book.redo)
        else:
            board = book.board()
            pit = chance.choice([pit for pit in range(len(board)) if board[pit] > 0])
            self.assertEqual(book.sow(pit) if deed == "sow" else book.back(pit), plain.done(deed, pit))


class UndoTest(unittest.TestCase):
    def test_nothing_left(self):
        book = RingBook([2, 0, 1])
        assert_refused(self, NoDeed, book.undo)
        assert_refused(self, NoDeed, book.redo)
        book.sow(0)
        assert_refused(self, NoDeed, book.redo)
        self.assertIsNone(book.undo())
        assert_refused(self, NoDeed, book.undo)
        self.assertIsNone(book.redo())
        assert_refused(self, NoDeed, book.redo)
        self.assertEqual(told_by(book), ([0, 1, 2], [("sow", 0)], 2, []))

    def test_each_of_several(self):
        book = RingBook([2, 0, 1])
        book.sow(0)
        book.sow(2)
        book.back(0)
        told = told_by(book)
        book.undo()
        book.undo()
        self.assertEqual(told_by(book), ([0, 1, 2], [("sow", 0)], 2, []))
        book.undo()
        self.assertEqual(told_by(book), ([2, 0, 1], [], 0, []))
        book.redo()
        book.redo()
        self.assertEqual(book.plan(), [("sow", 0), ("sow", 2)])
        book.redo()
        self.assertEqual(told_by(book), told)

    def test_a_refused_deed_changes_nothing(self):
        book = RingBook([2, 0, 1])
        book.sow(0)
        book.sow(2)
        book.undo()
        told = told_by(book)
        for refused in (book.sow, book.back):
            assert_refused(self, NoSeeds, refused, 0)
            assert_refused(self, BadPit, refused, 3)
            self.assertEqual(told_by(book), told)
        self.assertIsNone(book.redo())
        self.assertEqual(book.plan(), [("sow", 0), ("sow", 2)])

    def test_another_deed_behind_an_undo(self):
        for again in ("sow", "back"):
            book = RingBook([2, 0, 1])
            book.sow(0)
            book.sow(2)
            book.undo()
            book.undo()
            if again == "sow":
                book.sow(0)
            else:
                book.back(2)
            told = told_by(book)
            assert_refused(self, NoDeed, book.redo)
            self.assertEqual(told_by(book), told)
            self.assertEqual(len(book.plan()), 1)

    def test_a_refused_undo_or_redo_changes_nothing(self):
        book = RingBook([2, 0, 1])
        book.sow(0)
        book.undo()
        assert_refused(self, NoDeed, book.undo)
        book.redo()
        assert_refused(self, NoDeed, book.redo)
        self.assertEqual(book.plan(), [("sow", 0)])


class CameAgainTest(unittest.TestCase):
    def test_pairs_with_no_other_place_between(self):
        book = RingBook([1, 0])
        for pit in (0, 1, 0, 1):
            book.sow(pit)
        self.assertEqual(book.came_again(), [(0, 2), (1, 3), (2, 4)])
        book.undo()
        self.assertEqual(book.came_again(), [(0, 2), (1, 3)])
        book.redo()
        self.assertEqual(book.came_again(), [(0, 2), (1, 3), (2, 4)])

    def test_in_rising_order(self):
        book = RingBook([1, 0, 0])
        for pit in (0, 1):
            book.sow(pit)
        for pit in (2, 1):
            book.back(pit)
        self.assertEqual(book.came_again(), [(0, 4), (1, 3)])

    def test_undone_deeds_do_not_count(self):
        book = RingBook([1, 0])
        book.sow(0)
        book.sow(1)
        book.undo()
        self.assertEqual(book.came_again(), [])

    def test_the_answers_are_lists_of_pairs(self):
        book = RingBook([1, 0])
        book.sow(0)
        book.sow(1)
        for told in (book.came_again(), book.plan()):
            self.assertIs(type(told), list)
            self.assertEqual([type(pair) for pair in told], [tuple] * len(told))


class OwnTest(unittest.TestCase):
    def test_a_book_keeps_a_copy(self):
        board = [2, 0, 1]
        book = RingBook(board)
        board[0] = 9
        self.assertEqual(book.board(), [2, 0, 1])
        book.sow(0)
        self.assertEqual(board, [9, 0, 1])

    def test_changing_what_was_told_changes_nothing(self):
        book = RingBook([1, 0, 0])
        book.sow(0)
        book.back(1)
        book.sow(0)
        book.undo()
        told = told_by(book)
        for found in (book.board(), book.plan(), book.came_again()):
            found.clear()
        book.board()[0] = 7
        book.plan().append(("sow", 5))
        book.came_again().append((3, 4))
        self.assertEqual(told_by(book), told)
        book.redo()
        self.assertEqual(book.board(), [0, 1, 0])
        book.board().clear()
        book.undo()
        book.undo()
        book.board().clear()
        book.undo()
        book.board().clear()
        self.assertEqual(book.board(), [1, 0, 0])
        book.redo()
        self.assertEqual(book.board(), [0, 1, 0])

    def test_no_two_lists_told_are_one(self):
        book = RingBook([1, 0])
        self.assertIsNot(book.board(), book.board())
        self.assertIsNot(book.plan(), book.plan())
        self.assertIsNot(book.came_again(), book.came_again())

    def test_two_books_of_one_board_are_each_for_itself(self):
        board = [2, 0, 1]
        book = RingBook(board)
        other = RingBook(board)
        book.sow(0)
        self.assertEqual(told_by(other), ([2, 0, 1], [], 0, []))
        assert_refused(self, NoDeed, other.undo)
        other.back(0)
        other.undo()
        assert_refused(self, NoDeed, book.redo)
        self.assertEqual(told_by(book), ([0, 1, 2], [("sow", 0)], 2, []))
        other.redo()
        self.assertEqual(told_by(other), ([1, 2, 0], [("back", 0)], -2, []))
        self.assertEqual(board, [2, 0, 1])


class RefusalsTest(unittest.TestCase):
    def test_lists_that_are_no_boards(self):
        for board in NO_BOARDS:
            assert_refused(self, BadBoard, RingBook, board)

    def test_numbers_that_are_no_pits_and_pits_without_seeds(self):
        for board in ([1, 0], [0, 0, 0], [MOST] + [0] * 23):
            book = RingBook(board)
            for refused in (book.sow, book.back):
                for pit in no_pits(board):
                    assert_refused(self, BadPit, refused, pit)
                assert_refused(self, NoSeeds, refused, 1)
            self.assertEqual(told_by(book), (board, [], 0, []))
            assert_refused(self, NoDeed, book.undo)


if __name__ == "__main__":
    unittest.main()
