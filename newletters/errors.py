"""The refusals, one class for each."""


class LetterError(ValueError):
    pass


class NoWord(LetterError):
    def __init__(self, at):
        self.at = at


class NoText(LetterError):
    def __init__(self, row):
        self.row = row


class NoAlphabet(LetterError):
    def __init__(self, web):
        self.web = web


class NoChange(LetterError):
    def __init__(self, word):
        self.word = word


class NoPaper(LetterError):
    def __init__(self, at):
        self.at = at


class TooMany(LetterError):
    def __init__(self):
        pass


class NoRow(LetterError):
    def __init__(self):
        pass
