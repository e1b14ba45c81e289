"""The errors of the program. Each keeps what it was told in attributes."""

from lagbound.plain import copy_lists


class LagError(ValueError):
    """The base class of all errors of the program."""


class BadLetters(LagError):
    """A value is not an alphabet."""

    def __init__(self, value):
        self.value = value


class BadWord(LagError):
    """A value is not a word over the alphabet that is due, or it is too long."""

    def __init__(self, value):
        self.value = value


class BadNumber(LagError):
    """A value is not an integer in the range that is due."""

    def __init__(self, value):
        self.value = value


class BadName(LagError):
    """A value is not a name."""

    def __init__(self, value):
        self.value = value


class BadEntry(LagError):
    """An entry of a passed list is wrong, or the list itself if index is None."""

    def __init__(self, place, index):
        self.place = place
        self.index = index


class BadLine(LagError):
    """A line of a text is wrong at a place; both count from 1."""

    def __init__(self, line, place):
        self.line = line
        self.place = place


class BadCommand(LagError):
    """A command is wrong at a place, which counts from 1."""

    def __init__(self, place):
        self.place = place


class Mismatch(LagError):
    """Two alphabets that must be equal are not."""


class TooLarge(LagError):
    """More of something would be needed than its limit allows."""

    def __init__(self, what, limit):
        self.what = what
        self.limit = limit


class TwoWords(LagError):
    """A machine has two told words for one read word; the paper shows them."""

    def __init__(self, paper):
        self.paper = copy_lists(paper)


class Growing(LagError):
    """The lags of a machine grow; the paper shows two ways and their loop."""

    def __init__(self, paper):
        self.paper = copy_lists(paper)


class NoMove(LagError):
    """A reader has no move for the letter."""

    def __init__(self, letter):
        self.letter = letter


class NotFinal(LagError):
    """A reader has no final word in its state."""


class Closed(LagError):
    """A session is closed already."""


class NothingToUndo(LagError):
    """There is nothing that can be taken back."""


class NameTaken(LagError):
    """A new item is given a name that an item has already."""

    def __init__(self, name):
        self.name = name


class NameUnknown(LagError):
    """No item has the name."""

    def __init__(self, name):
        self.name = name
