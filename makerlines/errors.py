"""The errors of the package.

Each error holds, under the names of its parameters, the very objects that it was made with.
"""


class MakerError(ValueError):
    """Any failure that this package names."""


class BadField(MakerError):
    """The item of fields at this index is not a field."""

    def __init__(self, index):
        self.index = index


class BadModes(MakerError):
    """This is not a number of modes."""

    def __init__(self, modes):
        self.modes = modes


class BadCall(MakerError):
    """The item of calls at this index is not a call, for this reason."""

    def __init__(self, index, reason):
        self.index = index
        self.reason = reason


class UnknownCall(MakerError):
    """The kind has no call with this name."""

    def __init__(self, name):
        self.name = name


class BadPlace(MakerError):
    """This does not tell a place that can be asked for."""

    def __init__(self, place):
        self.place = place


class BadText(MakerError):
    """The line with this number, from 1 on, cannot stand in the text of a kind."""

    def __init__(self, line):
        self.line = line


class BadRow(MakerError):
    """The item of a program at this index is not a row of it."""

    def __init__(self, index):
        self.index = index


class BadWord(MakerError):
    """This is not what the call takes."""

    def __init__(self, word):
        self.word = word


class Refused(MakerError):
    """The call is refused in the mode of the maker."""


class BadThing(MakerError):
    """The thing is a product, or gone."""


class BadWish(MakerError):
    """This is not a wish."""

    def __init__(self, wish):
        self.wish = wish


class BadRun(MakerError):
    """This is not a run."""

    def __init__(self, thing):
        self.thing = thing


class BadCallers(MakerError):
    """This does not tell callers."""

    def __init__(self, callers):
        self.callers = callers


class BadKind(MakerError):
    """This is not a kind that is comparable with the other one."""

    def __init__(self, kind):
        self.kind = kind


class BadRule(MakerError):
    """The item of rules at this index is not a rule."""

    def __init__(self, index):
        self.index = index
