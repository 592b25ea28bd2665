"""The errors of the package, each one a direct subclass of PairError."""


class PairError(ValueError):
    """The base class of all errors of the package."""


class BadProgram(PairError):
    """No program: core is None, or the number of the first core that is wrong."""

    def __init__(self, core):
        super().__init__(f"no program, core {core}")
        self.core = core


class BadDesign(PairError):
    """No design."""


class BadCore(PairError):
    """No core."""


class BadPlace(PairError):
    """No places of a core, the first one less than the second one."""


class BadRow(PairError):
    """No row: index is None, or the number of the first event that cannot come."""

    def __init__(self, index):
        super().__init__(f"no row, item {index}")
        self.index = index


class BadName(PairError):
    """No name of a test."""


class BadPlaces(PairError):
    """No places for fences."""


class NotMade(PairError):
    """All arguments are right, but what is asked for does not exist."""


class NotText(PairError):
    """No string."""


class InvalidText(PairError):
    """A text that cannot be read: line is the number, from 1, of the first wrong line."""

    def __init__(self, line):
        super().__init__(f"the text is wrong in line {line}")
        self.line = line


class NotNow(PairError):
    """An event that cannot come now."""


class NothingToUndo(PairError):
    """There is no event to take back."""
