"""The refusals, each with a class of its own straight under SowError."""


class SowError(ValueError):
    def called(self):
        return "SowError"


class BadBoard(SowError):
    def called(self):
        return "BadBoard"


class BadPit(SowError):
    def called(self):
        return "BadPit"


class BadPits(SowError):
    def called(self):
        return "BadPits"


class BadCount(SowError):
    def called(self):
        return "BadCount"


class NoSeeds(SowError):
    def called(self):
        return "NoSeeds"


class BadPlan(SowError):
    def __init__(self, words, at):
        SowError.__init__(self, words)
        self.at = at

    def called(self):
        return "BadPlan"


class Unlike(SowError):
    def called(self):
        return "Unlike"


class TooLong(SowError):
    def called(self):
        return "TooLong"


class TooMany(SowError):
    def called(self):
        return "TooMany"


class BadLine(SowError):
    def called(self):
        return "BadLine"


class BadRow(SowError):
    def called(self):
        return "BadRow"


class BadYard(SowError):
    def called(self):
        return "BadYard"


class NoDeed(SowError):
    def called(self):
        return "NoDeed"


class BadText(SowError):
    def called(self):
        return "BadText"
