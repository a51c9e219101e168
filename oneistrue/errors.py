"""All errors of the package: one base class, four families, and the errors with their fields."""


class CourtError(ValueError):
    """The base class of all errors of the package."""


class PaperError(CourtError):
    """The family of what a checker finds wrong in a paper."""


class TableError(CourtError):
    """The family of what is wrong with the arguments of a function."""


class LiveError(CourtError):
    """The family of what a live desk refuses."""


class TextError(CourtError):
    """The family of what is wrong in a text that is read."""


class InvalidPaper(PaperError):
    """A checker does not accept a thing: word names the fault, at the place."""

    def __init__(self, word, at):
        self.word = word
        self.at = at


class NotUsable(TableError):
    """A parameter, named by word, is not as stated."""

    def __init__(self, word, at):
        self.word = word
        self.at = at


class Falling(TableError):
    """A table is not rising: here hides under there, but has the lesser award."""

    def __init__(self, here, there):
        self.here = here
        self.there = there


class NotBest(TableError):
    """A rising table is not the best one: lot raises or lowers it, as direction tells."""

    def __init__(self, direction, lot):
        self.direction = direction
        self.lot = lot


class InvalidEvent(LiveError):
    """A live desk refuses an event, for a reason."""

    def __init__(self, event, reason):
        self.event = event
        self.reason = reason


class NothingToUndo(LiveError):
    """A live desk has fewer events than the steps that are to be undone."""

    def __init__(self, steps):
        self.steps = steps


class InvalidText(TextError):
    """A word of a text, the one at field of a line, can't stand there."""

    def __init__(self, line, field):
        self.line = line
        self.field = field


class InvalidRow(TextError):
    """A row of a text is well written, but does not fit the others."""

    def __init__(self, row):
        self.row = row
