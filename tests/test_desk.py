"""Points 122 and 123: questions put and answered in a text."""

import unittest

from samples import GREAT_BOARDS, MOST, NO_BOARD_TEXTS, NO_TEXTS, assert_refused
from sowring.barred import ends_of, longest_play
from sowring.counting import number_of
from sowring.desk import answers_to
from sowring.errors import BadBoard, BadText
from sowring.hands import who_wins
from sowring.home import brought_home, home_yard
from sowring.least import least_way
from sowring.lines import comes_to, line_behind
from sowring.ring import gone_on, sown, taken_back
from sowring.rounds import round_laps, round_of
from sowring.texts import board_text
from sowring.turning import least_turn
from sowring.ways import gathered, way_to

BAD_TEXT = ("refused", "BadText")

NO_NUMBERS = ["-1", "-0", "+1", "00", "01", "x", "1x", "-", "", "1.0", "1,2", "9" * 62, "1" + "0" * 61, "~", "0x1", "1_0"]

WITH_ONE_NUMBER = ["sow", "back", "round", "gather", "march"]
WITHOUT_NUMBERS = ["number", "ring", "marching", "home", "homes"]
WITH_A_BOARD = ["to", "least"]
WITH_BARRED_PITS = ["ends", "wins", "longest"]


def answer(board, question):
    answers = answers_to(board + "\n" + question + "\n")
    assert len(answers) == 1
    return answers[0]


class AnswersTest(unittest.TestCase):
    def test_each_question(self):
        text = "2 0 1\nsow 0\nback 0\non 0 2\non 0 -1\non 0 0\nnumber\nring\nround 0"
        self.assertEqual(answers_to(text), [
            ("sown", [0, 1, 2], 2), ("back", [1, 2, 0], 1), ("on", [1, 2, 0], 1), ("on", [1, 2, 0], 1),
            ("on", [2, 0, 1], 0), ("number", 7), ("ring", [0, 1, 2], 2), ("round", 3, 2),
        ])
        text = "0 0 1\nends 0\nwins 0\nlongest 0\nleast 1 0 0\nends 0 2\nwins 0 2\nlongest 0 2"
        self.assertEqual(answers_to(text), [
            ("ends", [[1, 0, 0]]), ("wins", "first", 2), ("longest", [("sow", 2)]), ("least", [("sow", 2)]),
            ("ends", [[0, 0, 1]]), ("wins", "second", None), ("longest", []),
        ])
        text = "0 3 0\nmarch 0\nmarch 1\nmarch 2\nmarching\nhome\nhomes"
        self.assertEqual(answers_to(text), [
            ("line", [3]), ("line", [1, 1, 1]), ("line", [2, 1]), ("marching", 2, [2, 1], 1), ("barred", 1, 1),
            ("homes", [1, 2]),
        ])

    def test_what_the_functions_tell(self):
        for board in ([2, 0, 1], [3, 1], [0, 4, 1, 2], [1, 0, 0, 1, 0, 2], [0] * 22 + [1, 1]):
            text = board_text(board)
            for pit in range(len(board)):
                if board[pit] > 0:
                    standings = round_of(board, pit, 20000)
                    self.assertEqual(answer(text, f"sow {pit}"), ("sown",) + sown(board, pit))
                    self.assertEqual(answer(text, f"back {pit}"), ("back",) + taken_back(board, pit))
                    self.assertEqual(answer(text, f"on {pit} -7"), ("on",) + gone_on(board, pit, -7))
                    self.assertEqual(answer(text, f"on {pit} 1000"), ("on",) + gone_on(board, pit, 1000))
                    laps = round_laps(board, pit, 20000)
                    self.assertEqual(answer(text, f"round {pit}"), ("round", len(standings), laps))
                self.assertEqual(answer(text, f"gather {pit}"), ("plan", gathered(board, pit)))
                self.assertEqual(answer(text, f"ends {pit}"), ("ends", ends_of(board, [pit])))
                self.assertEqual(answer(text, f"wins {pit}"), ("wins",) + who_wins(board, [pit])[:2])
                self.assertEqual(answer(text, f"longest {pit}"), ("longest", longest_play(board, [pit])[0]))
            self.assertEqual(answer(text, "number"), ("number", number_of(board)))
            self.assertEqual(answer(text, "ring"), ("ring",) + least_turn(board))
            other = sorted(board)
            self.assertEqual(answer(text, "to " + board_text(other)), ("plan", way_to(board, other)))
            self.assertEqual(answer(text, "least " + board_text(other)), ("least", least_way(board, other)[0]))

    def test_several_barred_pits(self):
        board = [1, 0, 0, 1, 0, 2]
        for barred in ([0, 5], [1, 2, 4], [0, 1, 2, 3, 4]):
            words = " ".join([str(pit) for pit in barred])
            self.assertEqual(answer("1 0 0 1 0 2", "ends " + words), ("ends", ends_of(board, barred)))
            self.assertEqual(answer("1 0 0 1 0 2", "wins " + words), ("wins",) + who_wins(board, barred)[:2])
            self.assertEqual(answer("1 0 0 1 0 2", "longest " + words), ("longest", longest_play(board, barred)[0]))

    def test_lines_and_yards(self):
        for board, line, yard in [
            ([0, 3, 0, 1, 0], [3, 0, 1], [0, 3, 0, 1]), ([0, 0], [], []), ([0] * 24, [], []), ([1, 0], [1], [1]),
            ([0, 1], [1], [0, 1]), ([0, 1, 3], [1, 3], [0, 1, 3]), ([0, 1, 3, 0], [1, 3], [0, 1, 3]),
            ([5, 0, 0, 95], [5, 0, 0, 95], [5, 0, 0, 95]), ([4] * 24, [4] * 24, [4] * 24),
        ]:
            text = board_text(board)
            for marches in (0, 1, 5, MOST):
                self.assertEqual(answer(text, f"march {marches}"), ("line", line_behind(line, marches)))
            self.assertEqual(answer(text, "marching"), ("marching",) + comes_to(line))
            self.assertEqual(answer(text, "home"), brought_home(yard))
            self.assertEqual(answer(text, "homes"), ("homes", home_yard(sum(board))))
        self.assertEqual(answer("0 1 3 0", "home"), ("home", [3, 1, 2, 1]))
        self.assertEqual(answer("0 0", "home"), ("home", []))
        self.assertEqual(answer("10000 0", "homes"), ("homes", home_yard(10000)))

    def test_great_boards(self):
        for board in GREAT_BOARDS:
            pit = board.index(max(board))
            answers = answers_to(board_text(board) + f"\nsow {pit}\nnumber\nring\nhome\nmarch 0\nhomes\ngather 0")
            self.assertEqual(answers[0], ("sown",) + sown(board, pit))
            self.assertEqual(answers[1], ("number", number_of(board)))
            self.assertEqual(answers[2], ("ring",) + least_turn(board))
            refusals = ["BadYard", "BadLine", "BadCount", "TooMany"]
            self.assertEqual(answers[3:], [("refused", name) for name in refusals])

    def test_no_question_changes_the_board(self):
        self.assertEqual(answers_to("2 0 1\nsow 0\nsow 0\nnumber"), [("sown", [0, 1, 2], 2)] * 2 + [("number", 7)])

    def test_each_answer_is_its_own(self):
        text = "2 0 1\n" + "sow 0\nends 1\nends 1\ngather 1\ngather 1\nsow 0\nmarching\nmarching\nhomes\nhomes"
        kept = answers_to(text)
        answers = answers_to(text)
        lists = [part for told in answers for part in told if isinstance(part, list)]
        lists += [board for board in answers[1][1] + answers[2][1]]
        self.assertEqual(len({id(found) for found in lists}), len(lists))
        self.assertEqual(answers, kept)
        for found in lists:
            found.clear()
        self.assertEqual(answers_to(text), kept)
        answers[0][1].append(5)
        self.assertEqual(answers[5][1], [])

    def test_many_questions(self):
        board = " ".join([str(10 ** 20 + 7 * place) for place in range(24)])
        lines = [f"round {number % 24}" for number in range(380)]
        text = "\n".join([board] + lines)
        self.assertLess(len(text), 4000)
        self.assertEqual(answers_to(text), [("refused", "TooLong")] * 380)


class LinesTest(unittest.TestCase):
    def test_a_board_alone(self):
        self.assertEqual(answers_to("2 0 1"), [])
        self.assertEqual(answers_to("2 0 1\n"), [])

    def test_an_empty_line_at_the_very_end(self):
        self.assertEqual(answers_to("2 0 1\nnumber\n"), [("number", 7)])
        self.assertEqual(answers_to("2 0 1\nnumber"), [("number", 7)])

    def test_an_empty_line_amid_the_questions(self):
        self.assertEqual(answers_to("2 0 1\n\nnumber"), [BAD_TEXT, ("number", 7)])
        self.assertEqual(answers_to("2 0 1\nnumber\n\nnumber\n"), [("number", 7), BAD_TEXT, ("number", 7)])
        self.assertEqual(answers_to("2 0 1\nnumber\n\n"), [("number", 7), BAD_TEXT])
        self.assertEqual(answers_to("2 0 1\n\n"), [BAD_TEXT])
        self.assertEqual(answers_to("2 0 1\n\n\n"), [BAD_TEXT, BAD_TEXT])

    def test_a_first_line_that_is_not_so(self):
        for text in [text for text in NO_TEXTS if "\n" not in text]:
            assert_refused(self, BadText, answers_to, text)
            assert_refused(self, BadText, answers_to, text + "\n")
            assert_refused(self, BadText, answers_to, text + "\nnumber")
        for text in ("\n", "\n2 0 1", "number\n2 0 1"):
            assert_refused(self, BadText, answers_to, text)

    def test_a_first_line_that_makes_no_board(self):
        for text in NO_BOARD_TEXTS:
            assert_refused(self, BadBoard, answers_to, text)
            assert_refused(self, BadBoard, answers_to, text + "\nnumber\n\nxyz")

    def test_the_answer_is_a_list_of_tuples(self):
        answers = answers_to("2 0 1\nnumber\nxyz\nhome\nsow 0")
        self.assertIs(type(answers), list)
        self.assertEqual([type(told) for told in answers], [tuple] * 4)


class BadTextTest(unittest.TestCase):
    def assert_bad(self, *questions):
        for question in questions:
            with self.subTest(question=question):
                self.assertEqual(answer("2 0 1", question), BAD_TEXT)

    def test_other_words(self):
        self.assert_bad("", " ", "x", "Sow 0", "SOW 0", "sown 0", "sow0", "0", "0 sow", "2 0 1", "backs 0", "numbers",
                        "round_of 0", "way 0 0 3", "lines", "~", "refused", "sow\t0", "march\t0", "number.", "-", "on")

    def test_too_many_words(self):
        self.assert_bad(*[f"{word} 0 0" for word in WITH_ONE_NUMBER])
        self.assert_bad(*[f"{word} 0" for word in WITHOUT_NUMBERS])
        self.assert_bad("on 0 1 2", "to 2 0 1 0", "least 2 0 1 0", "sow 0 x", "number x", "sow 0 0 0", "sow sow 0")

    def test_too_few_words(self):
        self.assert_bad(*WITH_ONE_NUMBER)
        self.assert_bad("on", "on 0", "to", "to 3", "to 2 1", "least", "least 3", "least 2 1")

    def test_blanks_too_many(self):
        for question in ("number", "sow 0", "on 0 1", "to 2 0 1", "ends 1", "ends", "home"):
            self.assert_bad(" " + question, question + " ", question.replace(" ", "  ") + "  ", "  " + question)
            if " " in question:
                self.assert_bad(question.replace(" ", "  "))

    def test_numbers_that_are_none(self):
        for number in NO_NUMBERS:
            self.assert_bad(*[f"{word} {number}" for word in WITH_ONE_NUMBER])
            self.assert_bad(*[f"{word} {number}" for word in WITH_BARRED_PITS])
            self.assert_bad(*[f"{word} 0 {number}" for word in WITH_BARRED_PITS])
            self.assert_bad(*[f"{word} 0 {number} 0" for word in WITH_A_BOARD])
            self.assert_bad(f"on {number} 1", f"on {number} -1")
            if number != "-1":
                self.assert_bad(f"on 0 {number}")
                self.assert_bad(f"on 0 -{number}" if number != "" else "on 0 -")

    def test_61_figures_and_62(self):
        for figures in ("9" * 61, "1" + "0" * 60):
            self.assertEqual(answer("2 0 1", "sow " + figures), ("refused", "BadPit"))
            self.assertEqual(answer("2 0 1", "on 0 " + figures), ("refused", "BadCount"))
            self.assertEqual(answer("2 0 1", "on 0 -" + figures), ("refused", "BadCount"))
            self.assertEqual(answer("2 0 1", "ends " + figures), ("refused", "BadPits"))
        self.assertEqual(answer("2 0 1", "march 1" + "0" * 60), ("line", [2, 1]))
        self.assertEqual(answer("2 0 1", "march 1" + "0" * 59 + "1"), ("refused", "BadCount"))
        self.assertEqual(answer("2 0 1", "to 1" + "0" * 60 + " 0 0"), ("refused", "Unlike"))
        self.assertEqual(answer("2 0 1", "to 1" + "0" * 60 + " 0 1"), ("refused", "BadBoard"))
        self.assert_bad("sow " + "9" * 62, "on 0 " + "9" * 62, "on 0 -" + "9" * 62, "march 1" + "0" * 61)
        self.assert_bad("to 1" + "0" * 61 + " 0 0", "sow " + "9" * 3000)


class RefusedTest(unittest.TestCase):
    def assert_refused_with(self, name, board, *questions):
        for question in questions:
            with self.subTest(board=board, question=question):
                self.assertEqual(answer(board, question), ("refused", name))

    def test_each_refusal(self):
        self.assert_refused_with("BadPit", "2 0 1", "sow 3", "back 3", "on 3 0", "round 3", "gather 3", "on 99 2000")
        self.assert_refused_with("NoSeeds", "2 0 1", "sow 1", "back 1", "on 1 0", "round 1", "on 1 2000")
        self.assert_refused_with("BadCount", "2 0 1", "on 0 1001", "on 0 -1001")
        self.assert_refused_with("BadBoard", "2 0 1", "to " + "9" * 61 + " 0 0", "least " + "9" * 61 + " 0 0")
        self.assert_refused_with("Unlike", "2 0 1", "to 2 0 2", "least 2 0 0")
        self.assert_refused_with("Unlike", "1000 0", "to 1 0", "least 1 0")
        self.assert_refused_with("TooMany", "61 0", "gather 0", "to 0 61")
        self.assert_refused_with("BadPit", "61 0", "gather 2")
        self.assert_refused_with("TooMany", "1000 0", "least 0 1000", "ends 0", "wins 1", "longest 1")
        self.assert_refused_with("TooLong", "1" + "0" * 60 + " 0" * 23, "round 0")
        self.assert_refused_with("BadLine", "101 0", "march 0", "march 1" + "0" * 59 + "1", "marching")
        self.assert_refused_with("BadYard", "10001 0", "home")
        self.assert_refused_with("BadCount", "10001 0", "homes")

    def test_barred_pits(self):
        for word in WITH_BARRED_PITS:
            self.assert_refused_with("BadPits", "2 0 1", word, word + " 0 1 2", word + " 1 0", word + " 0 0", word + " 3")
            self.assert_refused_with("BadPits", "1000 0", word, word + " 0 1", word + " 2")

    def test_what_is_no_question_goes_ahead_of_what_is_refused(self):
        for question in ("on 99 -0", "sow 99 1", "ends 99 x", "to 9 9", "least 9 9 9 9", "march 01"):
            self.assertEqual(answer("2 0 1", question), BAD_TEXT)


if __name__ == "__main__":
    unittest.main()
