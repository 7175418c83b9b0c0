"""The errors about what is missing, cannot be done, or is too much."""


class MissingError(LookupError):
    """Something that was named is not there."""


class StateError(RuntimeError):
    """Something cannot be done as things stand."""


class LimitError(ArithmeticError):
    """Something is more than the package takes on."""


class UnknownArray(MissingError):
    """No array has this name."""

    def __init__(self, name):
        super().__init__("no array has this name")
        self.name = name


class UnknownName(MissingError):
    """No program of the book has this name."""

    def __init__(self, name):
        super().__init__("no program of the book has this name")
        self.name = name


class UnknownFact(MissingError):
    """The book has no fact like this."""

    def __init__(self, value):
        super().__init__("the book has no fact like this")
        self.value = value


class DoesNotRun(StateError):
    """A condition of a line does not hold."""

    def __init__(self, line):
        super().__init__("a condition of a line does not hold")
        self.line = line


class BrokenFact(StateError):
    """The numbers do not keep a fact."""

    def __init__(self, position):
        super().__init__("the numbers do not keep a fact")
        self.position = position


class NotWhole(StateError):
    """The value of a size is no integer."""

    def __init__(self, size):
        super().__init__("the value of a size is no integer")
        self.size = size


class CannotCut(StateError):
    """A row cannot be cut."""

    def __init__(self, cut, other):
        super().__init__("a row cannot be cut")
        self.cut = cut
        self.other = other


class IsCrossed(StateError):
    """An array is crossed."""

    def __init__(self, line, cut, other):
        super().__init__("an array is crossed")
        self.line = line
        self.cut = cut
        self.other = other


class NothingToUndo(StateError):
    """No deed is left that could be taken back."""

    def __init__(self):
        super().__init__("no deed is left that could be taken back")


class CommandFailed(StateError):
    """A command of a list raised an error."""

    def __init__(self, position, results):
        super().__init__("a command of a list raised an error")
        self.position = position
        self.results = results


class TooMany(LimitError):
    """There is more of a kind than its limit."""

    def __init__(self, kind, limit):
        super().__init__("there is more of a kind than its limit")
        self.kind = kind
        self.limit = limit
