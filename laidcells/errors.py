"""The refusals of the program, all under CellError."""


class CellError(ValueError):
    pass


class NoClaim(CellError):
    pass


class NoAsk(CellError):
    pass


class NoCell(CellError):
    def __init__(self, row):
        CellError.__init__(self, f"row {row} is wrong")
        self.row = row


class NoName(CellError):
    def __init__(self, word):
        CellError.__init__(self, f"the name {word!r} is not there or can't be taken")
        self.word = word
