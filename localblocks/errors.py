"""The errors of the package: each keeps its arguments as attributes."""


class BlockError(ValueError):
    """The base of all errors of the package."""


class BadText(BlockError):
    """A value is not a text of the asked form."""

    def __init__(self, text):
        self.text = text


class TooLong(BlockError):
    """Something is longer than the limit."""

    def __init__(self, limit):
        self.limit = limit


class NoIndex(BlockError):
    """No element has this index."""

    def __init__(self, index):
        self.index = index


class NoRange(BlockError):
    """Start and stop do not bound a part of the sequence."""

    def __init__(self, start, stop):
        self.start = start
        self.stop = stop


class BadName(BlockError):
    """A value is no name."""

    def __init__(self, name):
        self.name = name


class BadRuns(BlockError):
    """A value is not runs."""

    def __init__(self, runs):
        self.runs = runs


class BadTimes(BlockError):
    """A sequence cannot be repeated so many times."""

    def __init__(self, times):
        self.times = times


class NoName(BlockError):
    """Nothing is kept under this name."""

    def __init__(self, name):
        self.name = name


class TooMany(BlockError):
    """As many names as the limit allows are kept already."""

    def __init__(self, limit):
        self.limit = limit


class NothingToUndo(BlockError):
    """No change is left to take back."""


class BadLine(BlockError):
    """A line has none of the forms of a desk."""

    def __init__(self, line):
        self.line = line
