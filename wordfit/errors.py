"""The errors of Wordfit.

They share no base class of their own, although most are written alike: each one
must be a direct subclass of its built-in class.
"""


class InvalidLetters(ValueError):
    """The letters cannot be used, or they differ from the letters that are needed."""


class InvalidWord(ValueError):
    """`word` is any value that is not a word of the wanted form."""

    def __init__(self, word):
        self.word = word


class InvalidSample(ValueError):
    """The marks of `word` contradict each other."""

    def __init__(self, word):
        self.word = word


class InvalidMachine(ValueError):
    """The parts of a machine cannot be used, because of `state` or, if it is None, altogether."""

    def __init__(self, state):
        self.state = state


class InvalidPoints(ValueError):
    """The parts of points cannot be used, because of `point` or, if it is None, altogether."""

    def __init__(self, point):
        self.point = point


class NotComplete(ValueError):
    """`state` lacks a transition or a mark."""

    def __init__(self, state):
        self.state = state


class NotFit(ValueError):
    """The machine does not fit, or is not a fit."""


class NotReduced(ValueError):
    """`state` is not reached by any word, or it is equivalent to a lesser one."""

    def __init__(self, state):
        self.state = state


class NotApart(ValueError):
    """Two machines that are to be separated both answer True to `word`."""

    def __init__(self, word):
        self.word = word


class NotVersion(ValueError):
    """The machine is not a version."""


class InvalidText(ValueError):
    """The line with the index `line` cannot stand in the text."""

    def __init__(self, line):
        self.line = line


class InvalidCommand(ValueError):
    """`command` is any value that is not a command."""

    def __init__(self, command):
        self.command = command


class UnknownWord(KeyError):
    """`word` is any value that is not one of the marked words."""

    def __init__(self, word):
        self.word = word


class DuplicateWord(KeyError):
    """`word` has a mark already."""

    def __init__(self, word):
        self.word = word


class NothingToUndo(LookupError):
    """There are fewer steps that can be undone."""


class NothingToRedo(LookupError):
    """There are fewer steps that can be performed again."""


class OutOfRange(IndexError):
    """`number` is any value that is not an integer of the wanted range."""

    def __init__(self, number):
        self.number = number


class TooLarge(ArithmeticError):
    """Something is larger than `limit` allows."""

    def __init__(self, limit):
        self.limit = limit
