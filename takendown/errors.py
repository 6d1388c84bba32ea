"""The errors of the package. Each one keeps what it was made of under the names of its parameters."""


class DownError(Exception):
    """The base of the errors that only this package knows."""


class InvalidItem(DownError):
    """What should be a body is none; place tells the item, or is None."""

    def __init__(self, place):
        self.place = place


class NotACrowd(DownError):
    """A crowd has, at the place, an item that only works and guests may have."""

    def __init__(self, name, place):
        self.name = name
        self.place = place


class InvalidDevice(DownError):
    """The part of a device is wrong; name tells which entry of it, or is None."""

    def __init__(self, part, name):
        self.part = part
        self.name = name


class InvalidStep(DownError):
    """What should be a row is none; index tells the step, or is None."""

    def __init__(self, index):
        self.index = index


class InvalidState(DownError):
    """The value is no state."""

    def __init__(self, value):
        self.value = value


class InvalidMove(DownError):
    """The move is not possible."""

    def __init__(self, move):
        self.move = move


class InvalidStock(DownError):
    """The value is no stock of steps."""

    def __init__(self, value):
        self.value = value


class InvalidEdit(DownError):
    """The edit is none of the device."""

    def __init__(self, edit):
        self.edit = edit


class InvalidText(DownError):
    """A text is not written as it should be; line tells where, or is None."""

    def __init__(self, line):
        self.line = line


class InvalidCommand(DownError):
    """A command of the console is none; word tells its first word, or is None."""

    def __init__(self, word):
        self.word = word


class InvalidNumber(ValueError):
    """The value is no integer, or none of those asked for."""

    def __init__(self, value):
        self.value = value


class LimitExceeded(OverflowError):
    """There is more than the limit lets in."""

    def __init__(self, limit):
        self.limit = limit


class UnknownName(LookupError):
    """Nothing has the name, or it is no name."""

    def __init__(self, name):
        self.name = name


class NotRight(RuntimeError):
    """A row is not right; word and paper are what the verdict says of it."""

    def __init__(self, word, paper):
        self.word = word
        self.paper = paper


class NothingToUndo(RuntimeError):
    """Nothing was done that could be taken back."""

    def __init__(self, name):
        self.name = name
