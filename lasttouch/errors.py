"""The errors of the package."""


class LastTouchError(ValueError):
    """Every error of the package is one of these."""


class InvalidProgram(LastTouchError):
    """An argument is no program."""


class InvalidName(LastTouchError):
    """An argument is no name, or not one of the names that are asked for."""


class InvalidNames(LastTouchError):
    """An argument is no set of names, or no tuple of such sets as are asked for."""


class InvalidWord(LastTouchError):
    """An argument is no word."""


class InvalidWords(LastTouchError):
    """An argument is no list of words."""


class InvalidLabelling(LastTouchError):
    """An argument is no labelling."""


class InvalidStart(LastTouchError):
    """An argument is no start."""


class InvalidSight(LastTouchError):
    """An argument is no sight."""


class InvalidTable(LastTouchError):
    """An argument is no table of a program."""


class InvalidFamily(LastTouchError):
    """An argument is no family."""


class InvalidGraph(LastTouchError):
    """An argument is no graph."""


class InvalidBook(LastTouchError):
    """An argument is no book."""


class InvalidNumber(LastTouchError):
    """An argument is no integer within the bounds that are asked for."""


class InvalidText(LastTouchError):
    """An argument is no text of a program."""


class TooLarge(LastTouchError):
    """The answer, or what the arguments are together, is over a bound."""


class NoBlocks(LastTouchError):
    """A graph is asked for that would have no blocks."""


class NothingToUndo(LastTouchError):
    """There is no action that could be taken back."""


class Missing(LastTouchError):
    """A name is not in the labelling; the field tells which."""

    def __init__(self, name=None):
        self.name = name


class Lost(LastTouchError):
    """An action is refused because the fact would be lost; the field tells which."""

    def __init__(self, name=None):
        self.name = name
