"""The errors of the package: one class for each kind of failure."""


class InvalidProgram(ValueError):
    """A value is not a program; part names its first wrong part."""

    def __init__(self, part):
        self.part = part


class InvalidLot(ValueError):
    """A value is not a lot of the program."""

    def __init__(self):
        pass


class InvalidSituation(ValueError):
    """A value is not a situation; index is that of its first wrong lot, or None."""

    def __init__(self, index):
        self.index = index


class InvalidOptions(ValueError):
    """A value is not a tuple of options; index is that of its first wrong part, or None."""

    def __init__(self, index):
        self.index = index


class InvalidClaim(ValueError):
    """A value is not a claim; part names its first wrong part."""

    def __init__(self, part):
        self.part = part


class InvalidGoals(ValueError):
    """A value is not a tuple of goals; index is that of its first wrong part, or None."""

    def __init__(self, index):
        self.index = index


class ParseError(ValueError):
    """A text is not that of a program; line is the index of its first wrong line."""

    def __init__(self, line):
        self.line = line


class UnknownGoal(LookupError):
    """A live lot has no goal of this index."""

    def __init__(self, goal):
        self.goal = goal


class CannotDo(RuntimeError):
    """A step cannot be done in the lot."""

    def __init__(self):
        pass


class CannotLose(RuntimeError):
    """There is no letter to lose."""

    def __init__(self):
        pass


class CannotWear(RuntimeError):
    """There is no letter that could become smaller."""

    def __init__(self):
        pass


class OutOfReach(RuntimeError):
    """A goal is not open, or would not be open after a deed."""

    def __init__(self, goal):
        self.goal = goal


class Stuck(RuntimeError):
    """A run's entry cannot be done; index is that of the entry."""

    def __init__(self, index):
        self.index = index


class Refused(RuntimeError):
    """A row of deeds is refused; index and reason tell the first wrong deed, or are -1 and None."""

    def __init__(self, index, reason):
        self.index = index
        self.reason = reason


class NothingDone(RuntimeError):
    """There are no such deeds to take back."""

    def __init__(self):
        pass


class LimitExceeded(OverflowError):
    """More lots would have to be taken in than the limit lets."""

    def __init__(self, limit):
        self.limit = limit
