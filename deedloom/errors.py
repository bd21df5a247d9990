"""The refusals, one class each."""


class LoomError(ValueError):
    """Any refusal."""


class NoProgram(LoomError):
    """The lines write no program."""


class TooLong(LoomError):
    """How a run goes for ever did not show within the steps that are looked at."""


class NoLine(LoomError):
    """The line is none that a desk knows."""


class NoName(LoomError):
    """The name is no input of the program."""


class TooGreat(LoomError):
    """The number is greater than a word can be."""
