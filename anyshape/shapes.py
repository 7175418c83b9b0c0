"""Shapes of arrays, and whether programs run."""

from anyshape.facts import Equals
from anyshape.failures import BrokenFact, DoesNotRun
from anyshape.goals import Either
from anyshape.kinds import is_integer, is_list
from anyshape.measures import ByNumbers, BySizes
from anyshape.numbers import check_numbers, is_point
from anyshape.programs import named_array
from anyshape.proofs import points_against
from anyshape.shaping import shapes_by
from anyshape.sizes import Size


class Answer:
    """The base of all answers; it is not created itself. Answers can be created with any values."""

    @property
    def is_yes(self):
        """Whether the answer is a yes."""
        return False

    def again(self):
        """An equal answer that shares no list and no dict with this one."""
        return self


class Runs(Answer):
    """The program always runs."""

    @property
    def is_yes(self):
        """Whether the answer is a yes."""
        return True

    def __eq__(self, other):
        return isinstance(other, Runs)

    def __repr__(self):
        return "Runs()"


class Fails(Answer):
    """The program fails at a line and an axis, with points that break the condition there."""

    def __init__(self, line, axis, points):
        self.line = copied(line)
        self.axis = copied(axis)
        self.points = copied(points)

    @property
    def is_yes(self):
        """Whether the answer is a yes."""
        return False

    def again(self):
        """An equal answer that shares no list and no dict with this one."""
        return Fails(self.line, self.axis, self.points)

    def __eq__(self, other):
        return (isinstance(other, Fails) and self.line == other.line
                and self.axis == other.axis and self.points == other.points)

    def __repr__(self):
        return f"Fails({self.line!r}, {self.axis!r}, {self.points!r})"


def copied(value):
    """Any value, its lists, tuples, dicts and answers copied, also inside."""
    if isinstance(value, list):
        return [copied(item) for item in value]
    if isinstance(value, tuple):
        return tuple([copied(item) for item in value])
    if isinstance(value, dict):
        return {key: copied(value[key]) for key in value}
    return value.again() if isinstance(value, Answer) else value


def runs(program):
    """Runs if the program always runs, otherwise a Fails."""
    measure = BySizes(program.facts())
    _, broken = shapes_by(measure, program)
    return Runs() if broken is None else fails_of(measure, broken)


def fails_of(measure, broken):
    """The Fails for the position of a line and a condition of it that does not always hold."""
    line, condition = broken
    return Fails(line, condition[0], points_against(measure.scales(), _goal_of(condition)))


def is_fails(program, value):
    """Whether any value is a Fails of the program that is right."""
    _, broken = shapes_by(BySizes(program.facts()), program)
    if broken is None or not isinstance(value, Fails):
        return False
    line, condition = broken
    if not is_integer(value.line) or not is_integer(value.axis) or (value.line, value.axis) != (line, condition[0]):
        return False
    points = value.points
    if not is_list(points) or not all([is_point(point) for point in points]):
        return False
    return all([fact.holds_for(points) for fact in program.facts()]) and not _goal_of(condition).holds_for(points)


def shape(program, name=None):
    """The tuple of the Sizes of the axes of an array."""
    found = named_array(program, name)
    return always_shapes(BySizes(program.facts()), program)[found]


def shape_at(program, numbers, name=None):
    """The tuple of the integer sizes of the axes of an array at numbers."""
    found = named_array(program, name)
    check_kept(program, numbers)
    shapes, broken = shapes_by(ByNumbers(numbers), program)
    if found not in shapes:
        raise DoesNotRun(broken[0])
    return shapes[found]


def always_shapes(measure, program):
    """The dict of the shapes of all arrays, as Sizes; raise if the program does not always run."""
    shapes, broken = shapes_by(measure, program)
    if broken is not None:
        raise DoesNotRun(broken[0])
    return shapes


def check_kept(program, numbers):
    """Raise unless these are numbers for the program that keep its facts."""
    check_numbers(numbers, program.names())
    for position, fact in enumerate(program.facts()):
        if not fact.holds_at(numbers):
            raise BrokenFact(position)


def _goal_of(condition):
    """The goal that a condition holds."""
    _, one, other, is_pair = condition
    same = Equals(one, other)
    return Either(same, Equals(one, Size()), Equals(other, Size())) if is_pair else same
