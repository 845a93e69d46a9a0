"""The errors that the program raises."""


class MoatError(ValueError):
    """The base class of all errors of the program."""


class Apart(MoatError):
    """Not even all ways together join the pair with this index."""

    def __init__(self, index):
        MoatError.__init__(self, f"no ways join the pair {index}")
        self.index = index


class BadText(MoatError):
    """The line with this number cannot stand in a text."""

    def __init__(self, line):
        MoatError.__init__(self, f"line {line} cannot stand here")
        self.line = line


class Refused(MoatError):
    """An edit was refused for this reason, a word."""

    def __init__(self, reason):
        MoatError.__init__(self, f"the edit is refused: {reason}")
        self.reason = reason
