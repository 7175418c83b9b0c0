"""Measures: in which values the sizes of axes are told, and when these are equal or 1."""

from anyshape.scales import Scales
from anyshape.sizes import Size


class Measure:
    """The base of the measures; it is not created itself."""

    def way(self, one, other):
        """How two values are joined: 0 if they are equal, 1 if the first is 1, 2 if the second is, or None."""
        if self.are_same(one, other):
            return 0
        if self.is_one(one):
            return 1
        return 2 if self.is_one(other) else None


class AsWritten(Measure):
    """The base of the measures of which the values are Sizes that the lines write, whatever these are equal to."""

    def measured(self, size):
        """The value of a Size."""
        return size

    def times(self, values):
        """The value of the product of some sizes."""
        return Size.product(*values)

    def is_one(self, value):
        """Whether a value is the size 1, as it is written."""
        return len(value) == 0


class BySizes(Measure):
    """The values are Sizes; what is said of them is what is always so."""

    def __init__(self, facts):
        self._scales = Scales(facts)

    def scales(self):
        """The scales of the facts."""
        return self._scales

    def measured(self, size):
        """The value of a Size."""
        return size

    def times(self, values):
        """The value of the product of some sizes."""
        return Size.product(*values)

    def are_same(self, one, other):
        """Whether two values belong to equal sizes."""
        return self._scales.equals(one, other)

    def is_one(self, value):
        """Whether a value belongs to the size 1."""
        return self._scales.is_one(value)


class ByNumbers(Measure):
    """The values are integers, at numbers."""

    def __init__(self, numbers):
        self._numbers = dict(numbers)

    def measured(self, size):
        """The value of a Size."""
        return size.at(self._numbers)

    def times(self, values):
        """The value of the product of some sizes."""
        return product_of(values)

    def are_same(self, one, other):
        """Whether two values belong to equal sizes."""
        return one == other

    def is_one(self, value):
        """Whether a value belongs to the size 1."""
        return value == 1


class ByLengths(Measure):
    """The values are the lengths of the sizes at a point."""

    def __init__(self, point):
        self._point = dict(point)

    def measured(self, size):
        """The value of a Size."""
        return size.at_point(self._point)

    def times(self, values):
        """The value of the product of some sizes."""
        return sum(list(values))

    def are_same(self, one, other):
        """Whether two values belong to equal sizes."""
        return one == other

    def is_one(self, value):
        """Whether a value belongs to the size 1."""
        return value == 0


def product_of(numbers):
    """The product of some integers."""
    product = 1
    for number in numbers:
        product = product * number
    return product
