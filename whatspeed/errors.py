"""The errors of the package: each keeps its argument, and all are SpeedErrors."""


class SpeedError(ValueError):
    """What every error of the package is."""


class BadNumber(SpeedError):
    """A fraction that is none; value is (top, bottom)."""

    def __init__(self, value):
        self.value = value


class BadStretch(SpeedError):
    """Two ends that enclose nothing, or are none; value is (low, high)."""

    def __init__(self, value):
        self.value = value


class BadProgram(SpeedError):
    """A text that is no program; line is the first line that cannot stand, or where it ends too early."""

    def __init__(self, line):
        self.line = line


class Doubled(SpeedError):
    """A name that is declared a second time; line is where."""

    def __init__(self, line):
        self.line = line


class Unnamed(SpeedError):
    """A name that is not declared as what it is used for; line is where."""

    def __init__(self, line):
        self.line = line


class BadSpeeds(SpeedError):
    """Speeds that are none for the program; value is all of them."""

    def __init__(self, value):
        self.value = value


class NoEvent(SpeedError):
    """A value that is no index of an event."""

    def __init__(self, value):
        self.value = value


class BadTime(SpeedError):
    """A value that is no time of the run."""

    def __init__(self, value):
        self.value = value


class NoTask(SpeedError):
    """A value that is no task of the program."""

    def __init__(self, value):
        self.value = value


class NoThing(SpeedError):
    """A value that is no queue, or no lock, of the program."""

    def __init__(self, value):
        self.value = value


class BadQuestion(SpeedError):
    """A question that is none for the program; value is all of it."""

    def __init__(self, value):
        self.value = value


class TooMany(SpeedError):
    """More cells than a curve may have."""


class NoSpeed(SpeedError):
    """A value that is no Number in the stretch that is asked for."""

    def __init__(self, value):
        self.value = value


class BadOffers(SpeedError):
    """Offers that are none for the program; value is all of them."""

    def __init__(self, value):
        self.value = value


class NoLine(SpeedError):
    """A value that is no line, or no count of lines, of the program."""

    def __init__(self, value):
        self.value = value


class NothingToUndo(SpeedError):
    """No edit is left to be taken back."""


class NothingToRedo(SpeedError):
    """No edit is left to be made again."""


class BadText(SpeedError):
    """A value that is not the text of a number, a line or a stretch."""

    def __init__(self, value):
        self.value = value


class BadLine(SpeedError):
    """A value that is no line for a desk."""

    def __init__(self, value):
        self.value = value
