"""The errors of the package: each keeps what it was raised for."""


class LevelError(Exception):
    """Any error of the package."""


class BadArgument(LevelError):
    """An argument is of the wrong kind or form."""

    def __init__(self, value):
        self.value = value


class BadProgram(LevelError):
    """A program cannot be made: this part is not as it should be."""

    def __init__(self, part):
        self.part = part


class BadProcedure(LevelError):
    """No procedure of the program."""

    def __init__(self, value):
        self.value = value


class BadPoint(LevelError):
    """No point of the procedure."""

    def __init__(self, value):
        self.value = value


class BadLine(LevelError):
    """No line of the program."""

    def __init__(self, value):
        self.value = value


class BadStore(LevelError):
    """No store of the program."""

    def __init__(self, value):
        self.value = value


class BadMask(LevelError):
    """No level from 0 to that of the highest line."""

    def __init__(self, value):
        self.value = value


class BadGuards(LevelError):
    """No guards of the program."""

    def __init__(self, value):
        self.value = value


class BadMove(LevelError):
    """No move that can be made."""

    def __init__(self, value):
        self.value = value


class BadScript(LevelError):
    """The move with this number cannot be made."""

    def __init__(self, at):
        self.at = at


class BadNumber(LevelError):
    """No number of the kind that is asked for."""

    def __init__(self, value):
        self.value = value


class BadCell(LevelError):
    """No cell of the program."""

    def __init__(self, value):
        self.value = value


class BadSection(LevelError):
    """No section of the program."""

    def __init__(self, value):
        self.value = value


class BadChange(LevelError):
    """No change that can be chosen."""

    def __init__(self, value):
        self.value = value


class BadWish(LevelError):
    """No wish about the program."""

    def __init__(self, value):
        self.value = value


class BadText(LevelError):
    """A text that is not written as it should be."""

    def __init__(self, at):
        self.at = at


class TooMany(LevelError):
    """More than can be counted."""

    def __init__(self, number):
        self.number = number


class Broken(LevelError):
    """A claim that is held would be broken."""

    def __init__(self, claim):
        self.claim = claim


class NoRow(LevelError):
    """No row of words that a console knows."""

    def __init__(self, row):
        self.row = row


class AtRest(LevelError):
    """Nothing is left to be done."""


class NothingLeft(LevelError):
    """Nothing is left to be undone."""
