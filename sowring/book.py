"""A book of deeds done to a board, which can be undone and done again."""

from sowring.checks import check_board
from sowring.errors import NoDeed
from sowring.ring import sown, taken_back


# boards holds the first board and the one behind each deed; deeds holds a triple for each: the word, the pit, and how
# many seeds were put, below nought for those that were taken; undone holds pairs of a deed and the board behind it.
class RingBook:
    def __init__(self, board):
        check_board(board)
        self.boards = [list(board)]
        self.deeds = []
        self.undone = []

    def sow(self, pit):
        behind = sown(self.boards[-1], pit)
        self.enter(("sow", pit, self.boards[-1][pit]), behind[0])
        return behind[1]

    def back(self, pit):
        behind = taken_back(self.boards[-1], pit)
        self.enter(("back", pit, -behind[0][behind[1]]), behind[0])
        return behind[1]

    def enter(self, deed, board):
        self.deeds.append(deed)
        self.boards.append(board)
        self.undone = []

    def undo(self):
        if len(self.deeds) == 0:
            raise NoDeed("there is no deed to take back")
        self.undone.append((self.deeds.pop(), self.boards.pop()))

    def redo(self):
        if len(self.undone) == 0:
            raise NoDeed("there is no deed to do again")
        again = self.undone.pop()
        self.deeds.append(again[0])
        self.boards.append(again[1])

    def board(self):
        return list(self.boards[-1])

    def plan(self):
        return [(deed[0], deed[1]) for deed in self.deeds]

    def sown_in_all(self):
        return sum([deed[2] for deed in self.deeds])

    def came_again(self):
        places = {}
        pairs = []
        for place, found in enumerate(self.boards):
            key = tuple(found)
            if key in places:
                pairs.append((places[key], place))
            places[key] = place
        return sorted(pairs)
