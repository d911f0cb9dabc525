"""The errors that the program raises."""


class FourtouchError(ValueError):
    """The base class of all errors of the program."""


class InvalidCircle(FourtouchError):
    """Something is no circle."""


class InvalidFour(FourtouchError):
    """Some circles, or some curvatures, are no four."""


class InvalidWord(FourtouchError):
    """Something in a word is no number of a circle of a four."""


class InvalidQuestion(FourtouchError):
    """A question has no answer, or a number of it is out of its bounds."""


class NothingToUndo(FourtouchError):
    """There is no change to take back."""


class NothingToRedo(FourtouchError):
    """There is no change to make again."""


class UnknownName(FourtouchError):
    """Nothing has this name."""

    def __init__(self, name):
        super().__init__("unknown name")
        self.name = name


class NameInUse(FourtouchError):
    """Something has or uses this name already."""

    def __init__(self, name):
        super().__init__("name in use")
        self.name = name


class InvalidNotation(FourtouchError):
    """The line with this number, from 1 on, cannot stand where it stands in a text."""

    def __init__(self, line):
        super().__init__("invalid notation")
        self.line = line


class InvalidPaper(FourtouchError):
    """The line with this number, from 1 on, cannot stand where it stands in a paper."""

    def __init__(self, line):
        super().__init__("invalid paper")
        self.line = line


class TooMany(FourtouchError):
    """There is more to tell than this limit allows."""

    def __init__(self, limit):
        super().__init__("more than the limit")
        self.limit = limit


class NotThere(FourtouchError):
    """A circle does not belong to a heap: it falls out behind so many exchanges."""

    def __init__(self, step):
        super().__init__("not in the heap")
        self.step = step
