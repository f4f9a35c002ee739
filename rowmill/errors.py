"""The refusals: each a class straight under MillError, so that one can be taken without another."""


class MillError(ValueError):
    pass


class NoProgram(MillError):
    pass


class NoText(MillError):
    def __init__(self, at):
        self.at = at


class NoMemory(MillError):
    pass


class NoInputs(MillError):
    pass


class NoStep(MillError):
    pass


class NoCall(MillError):
    pass


class Shut(MillError):
    pass


class NoLine(MillError):
    pass


class NoSets(MillError):
    pass


class NoPlace(MillError):
    pass


class NoSize(MillError):
    pass


class NoLog(MillError):
    def __init__(self, at):
        self.at = at


class BadRow(MillError):
    pass


class NoMill(MillError):
    pass


class NoName(MillError):
    pass


class NoWord(MillError):
    pass
