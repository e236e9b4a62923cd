"""The refusals of the program, a class for each."""


class UpError(ValueError):
    pass


class NoPlace(UpError):
    pass


class NoNumber(UpError):
    pass


class NoWord(UpError):
    pass


class NoRows(UpError):
    pass


class NoRuns(UpError):
    pass


class NoCover(UpError):
    pass


class NoText(UpError):
    pass


class TooMany(UpError):
    pass


class NoTries(UpError):
    pass


class NoPattern(UpError):
    pass


class NoLetter(UpError):
    pass


class NoLeaf(UpError):
    pass


class NoChange(UpError):
    pass


class NoLine(UpError):
    pass


class NoTree(UpError):

    def __init__(self, at):
        self.at = at
