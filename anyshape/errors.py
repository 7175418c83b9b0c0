"""The errors about values that are not as a function needs them."""


class AnyshapeError(ValueError):
    """A value that was passed is not valid."""


class InvalidName(AnyshapeError):
    """A value is no name."""

    def __init__(self, value):
        super().__init__("a value is no name")
        self.value = value


class InvalidNames(AnyshapeError):
    """A value is no list of names."""

    def __init__(self, position):
        super().__init__("a value is no list of names")
        self.position = position


class InvalidSize(AnyshapeError):
    """A value is no size of the kind that is needed."""

    def __init__(self, value):
        super().__init__("a value is no size of the kind that is needed")
        self.value = value


class InvalidSizes(AnyshapeError):
    """A value is no list of sizes."""

    def __init__(self, position):
        super().__init__("a value is no list of sizes")
        self.position = position


class InvalidCount(AnyshapeError):
    """A value is no integer of at least 0."""

    def __init__(self, value):
        super().__init__("a value is no integer of at least 0")
        self.value = value


class InvalidNumber(AnyshapeError):
    """A value is no number of the kind that is needed."""

    def __init__(self, value):
        super().__init__("a value is no number of the kind that is needed")
        self.value = value


class InvalidNumbers(AnyshapeError):
    """A value is not numbers for the names that are needed."""

    def __init__(self, value):
        super().__init__("a value is not numbers for the names that are needed")
        self.value = value


class InvalidPoint(AnyshapeError):
    """A value is no point."""

    def __init__(self, value):
        super().__init__("a value is no point")
        self.value = value


class InvalidPoints(AnyshapeError):
    """A value is no list of points."""

    def __init__(self, position):
        super().__init__("a value is no list of points")
        self.position = position


class InvalidText(AnyshapeError):
    """A text is not written as its kind is."""

    def __init__(self, line):
        super().__init__("a text is not written as its kind is")
        self.line = line


class InvalidFacts(AnyshapeError):
    """A value is no list of facts."""

    def __init__(self, position):
        super().__init__("a value is no list of facts")
        self.position = position


class InvalidGoal(AnyshapeError):
    """A value is no goal."""

    def __init__(self, value):
        super().__init__("a value is no goal")
        self.value = value


class InvalidCone(AnyshapeError):
    """A value is no cone."""

    def __init__(self, value):
        super().__init__("a value is no cone")
        self.value = value


class InvalidInputs(AnyshapeError):
    """A value is no list of inputs of a program."""

    def __init__(self, position):
        super().__init__("a value is no list of inputs of a program")
        self.position = position


class InvalidLine(AnyshapeError):
    """A value is no list of lines of a program."""

    def __init__(self, position):
        super().__init__("a value is no list of lines of a program")
        self.position = position


class InvalidProgram(AnyshapeError):
    """A value is no program of the kind that is needed."""

    def __init__(self, value):
        super().__init__("a value is no program of the kind that is needed")
        self.value = value


class InvalidTerm(AnyshapeError):
    """A value is no term."""

    def __init__(self, value):
        super().__init__("a value is no term")
        self.value = value


class InvalidTerms(AnyshapeError):
    """A value is no list of terms."""

    def __init__(self, position):
        super().__init__("a value is no list of terms")
        self.position = position


class InvalidWord(AnyshapeError):
    """A value is no word."""

    def __init__(self, value):
        super().__init__("a value is no word")
        self.value = value


class InvalidPosition(AnyshapeError):
    """A value is no position of a bit."""

    def __init__(self, value):
        super().__init__("a value is no position of a bit")
        self.value = value


class InvalidPositions(AnyshapeError):
    """A value is no list of positions of a cell."""

    def __init__(self, value):
        super().__init__("a value is no list of positions of a cell")
        self.value = value


class InvalidIndex(AnyshapeError):
    """A value is no index of a cell."""

    def __init__(self, value):
        super().__init__("a value is no index of a cell")
        self.value = value


class InvalidContents(AnyshapeError):
    """A value has no contents for each input."""

    def __init__(self, name):
        super().__init__("a value has no contents for each input")
        self.name = name


class InvalidMeanings(AnyshapeError):
    """A value has no meaning for each letter."""

    def __init__(self, letter):
        super().__init__("a value has no meaning for each letter")
        self.letter = letter


class InvalidDigits(AnyshapeError):
    """A value is no list of digits."""

    def __init__(self, position):
        super().__init__("a value is no list of digits")
        self.position = position


class OtherInputs(AnyshapeError):
    """Two programs have other inputs."""

    def __init__(self, position):
        super().__init__("two programs have other inputs")
        self.position = position


class InvalidAnswer(AnyshapeError):
    """A value is no answer of the kind that is needed."""

    def __init__(self, value):
        super().__init__("a value is no answer of the kind that is needed")
        self.value = value


class InvalidQuestion(AnyshapeError):
    """A value is no question."""

    def __init__(self, value):
        super().__init__("a value is no question")
        self.value = value


class InvalidCommand(AnyshapeError):
    """A value is no command."""

    def __init__(self, value):
        super().__init__("a value is no command")
        self.value = value
