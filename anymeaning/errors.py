"""The refusals, each a class of its own straight under one base."""


class MeaningError(ValueError):
    """Any refusal."""


class NoTest(MeaningError):
    """A text writes no test."""


class NoProgram(MeaningError):
    """A text writes no program."""


class NoWorld(MeaningError):
    """Lists make no world."""


class NoSaying(MeaningError):
    """A text writes no saying."""


class NoName(MeaningError):
    """A name is not written as told, or nothing stands for it."""


class NoRow(MeaningError):
    """A desk's row has not the told form."""


class TooMuch(MeaningError):
    """More is asked of a desk than it takes."""
