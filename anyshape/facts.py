"""Facts: what is said of two sizes."""

from anyshape.errors import InvalidSize
from anyshape.goals import Goal
from anyshape.numbers import check_numbers, check_points
from anyshape.powers import orders
from anyshape.sizes import Size


class Fact(Goal):
    """The base of Divides and Equals; it is not created itself.

    Its row is kept as a Size, the second size over the first one. So what holds
    at a point depends on the exponent there, and what holds at numbers on the
    exponents of coprime bases in the same way.

    Its properties have setters, which refuse, as other classes have attributes
    of the same names that are assigned.
    """

    def __init__(self, one, other):
        super().__init__()
        check_whole(one)
        check_whole(other)
        self._one = one
        self._other = other
        self._row = other.over(one)

    @property
    def one(self):
        """The first size."""
        return self._one

    @one.setter
    def one(self, value):
        raise AttributeError("a fact does not change")

    @property
    def other(self):
        """The second size."""
        return self._other

    @other.setter
    def other(self, value):
        raise AttributeError("a fact does not change")

    def exponent(self, name):
        """The integer of the row for a name."""
        return self._row.exponent(name)

    def kept_by(self, point):
        """Whether a point keeps the fact."""
        return self.allows(self._row.at_point(point))

    def allows(self, total):
        """Whether the row may have this sum at a point."""
        return total >= 0

    def facts(self):
        """The list of this fact alone."""
        return [self]

    def names(self):
        """The sorted list of all names."""
        return sorted(set(self._one.names() + self._other.names()))

    @property
    def depth(self):
        """How deep its goals are nested; it has none."""
        return 0

    def holds_at(self, numbers):
        """Whether numbers for its names keep the fact."""
        check_numbers(numbers, self.names())
        pairs = orders(self._row.exponents(), numbers)
        return all([self.allows(order) for _, order in pairs])

    def holds_for(self, points):
        """Whether each of a list of points keeps the fact."""
        check_points(points)
        return all([self.kept_by(point) for point in points])


class Divides(Fact):
    """The fact that the first size divides the second one."""

    def __init__(self, one, other):
        super().__init__(one, other)

    @property
    def one(self):
        """The first size."""
        return self._one

    @one.setter
    def one(self, value):
        raise AttributeError("a fact does not change")

    @property
    def other(self):
        """The second size."""
        return self._other

    @other.setter
    def other(self, value):
        raise AttributeError("a fact does not change")

    def exponent(self, name):
        """The integer of the row for a name."""
        return super().exponent(name)

    def kept_by(self, point):
        """Whether a point keeps the fact."""
        return super().kept_by(point)

    def allows(self, total):
        """Whether the row may have this sum at a point."""
        return total >= 0

    def facts(self):
        """The list of this fact alone."""
        return super().facts()

    def names(self):
        """The sorted list of all names."""
        return super().names()

    @property
    def depth(self):
        """How deep its goals are nested; it has none."""
        return 0

    def holds_at(self, numbers):
        """Whether numbers for its names keep the fact."""
        return super().holds_at(numbers)

    def holds_for(self, points):
        """Whether each of a list of points keeps the fact."""
        return super().holds_for(points)

    def __eq__(self, other):
        return isinstance(other, Divides) and self._one == other._one and self._other == other._other

    def __str__(self):
        return f"{self._one} | {self._other}"

    def __repr__(self):
        return f"Divides({self._one!r}, {self._other!r})"


class Equals(Fact):
    """The fact that the first size equals the second one."""

    def __init__(self, one, other):
        super().__init__(one, other)

    @property
    def one(self):
        """The first size."""
        return self._one

    @one.setter
    def one(self, value):
        raise AttributeError("a fact does not change")

    @property
    def other(self):
        """The second size."""
        return self._other

    @other.setter
    def other(self, value):
        raise AttributeError("a fact does not change")

    def exponent(self, name):
        """The integer of the row for a name."""
        return super().exponent(name)

    def kept_by(self, point):
        """Whether a point keeps the fact."""
        return super().kept_by(point)

    def allows(self, total):
        """Whether the row may have this sum at a point."""
        return total == 0

    def facts(self):
        """The list of this fact alone."""
        return super().facts()

    def names(self):
        """The sorted list of all names."""
        return super().names()

    @property
    def depth(self):
        """How deep its goals are nested; it has none."""
        return 0

    def holds_at(self, numbers):
        """Whether numbers for its names keep the fact."""
        return super().holds_at(numbers)

    def holds_for(self, points):
        """Whether each of a list of points keeps the fact."""
        return super().holds_for(points)

    def __eq__(self, other):
        return isinstance(other, Equals) and self._one == other._one and self._other == other._other

    def __str__(self):
        return f"{self._one} = {self._other}"

    def __repr__(self):
        return f"Equals({self._one!r}, {self._other!r})"


def check_whole(value):
    """Raise unless the value is a whole Size."""
    if not isinstance(value, Size) or not value.is_whole:
        raise InvalidSize(value)
