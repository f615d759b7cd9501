"""The errors of the package: one class for each kind of failure."""


class AmountError(ValueError):
    """What all errors of the package are."""

    def name(self):
        """The name of the error's class."""
        return self.__class__.__name__


class BadBatch(AmountError):
    """The edits or deeds are not of the form that is told."""


class BadLoad(AmountError):
    """The value is no load; error is what load_error tells of it."""

    def __init__(self, error):
        self.error = error


class BadRow(AmountError):
    """What was given is no row of so many kinds."""

    def __init__(self, given):
        self.given = given


class BadText(AmountError):
    """The text is that of no load; line is the first wrong one."""

    def __init__(self, line):
        self.line = line


class Busy(AmountError):
    """The desk is in the midst of an attempt."""


class NoJobs(AmountError):
    """There is no job."""


class NoNumber(AmountError):
    """No order has this number."""

    def __init__(self, number):
        self.number = number


class NoRow(AmountError):
    """What was given is the index of no row."""

    def __init__(self, given):
        self.given = given


class NothingToUndo(AmountError):
    """No edit stands that could be taken back."""


class NotTwo(AmountError):
    """The jobs go through another number of machines than two."""

    def __init__(self, machines):
        self.machines = machines


class NoVersion(AmountError):
    """What was given is the number of no version that stands."""

    def __init__(self, given):
        self.given = given


class Rejected(AmountError):
    """The edit or deed at this place raised an error."""

    def __init__(self, index):
        self.index = index


class TooGreat(AmountError):
    """What would stand at this index has too great an amount for a row."""

    def __init__(self, index):
        self.index = index


class TooMany(AmountError):
    """There are, or would be, more than this limit."""

    def __init__(self, limit):
        self.limit = limit


class TooManyEdits(AmountError):
    """As many edits stand as may stand."""


class Uneven(AmountError):
    """The rows do not come to a nought."""


class Unfit(AmountError):
    """The two loads have unlike kinds."""
