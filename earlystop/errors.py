"""The refusals: each stands straight under EarlyError, none under another."""


class EarlyError(ValueError):
    pass


class NoTrial(EarlyError):
    def __init__(self, line, word):
        EarlyError.__init__(self, line, word)
        self.line = line
        self.word = word


class NoRule(EarlyError):
    def __init__(self, counts):
        EarlyError.__init__(self, counts)
        self.counts = counts


class NoBounds(EarlyError):
    def __init__(self, k):
        EarlyError.__init__(self, k)
        self.k = k


class NoLook(EarlyError):
    def __init__(self, word):
        EarlyError.__init__(self, word)
        self.word = word


class NoPaper(EarlyError):
    def __init__(self, word, at):
        EarlyError.__init__(self, word, at)
        self.word = word
        self.at = at


class NoLines(EarlyError):
    def __init__(self, line):
        EarlyError.__init__(self, line)
        self.line = line


class NoFraction(EarlyError):
    pass


class NoOrder(EarlyError):
    pass


class NoBack(EarlyError):
    pass


class NoRow(EarlyError):
    pass
