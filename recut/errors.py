"""The refusals: all stand straight under CutError, none under another."""


class CutError(ValueError):
    pass


class NoNumber(CutError):
    pass


# The words of Crossed and Odd leave the kept number out: it may have more figures than Python writes.


class Crossed(CutError):
    def __init__(self, column):
        CutError.__init__(self, "two sides cross within a column")
        self.column = column


class Odd(CutError):
    def __init__(self, number):
        CutError.__init__(self, "the openings or the closings of a number are odd in number")
        self.number = number
