"""The refusals: one class for each, side by side under BoxError."""


class BoxError(ValueError):
    pass


class NoNumber(BoxError):
    pass


class NoSpan(BoxError):
    pass


class NoCut(BoxError):
    pass


class NoRow(BoxError):
    pass


class TooMuch(BoxError):
    pass


class NoTask(BoxError):
    pass


class NoBook(BoxError):
    pass


class NoName(BoxError):
    def __init__(self, word):
        self.word = word
