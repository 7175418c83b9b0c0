"""Sizes: products of names with integer exponents."""

from anyshape.counts import added
from anyshape.errors import InvalidCount, InvalidName, InvalidSize, InvalidText
from anyshape.failures import NotWhole
from anyshape.kinds import is_count, is_integer
from anyshape.numbers import check_numbers, check_point, is_name
from anyshape.powers import orders, raised
from anyshape.sizetexts import exponents_text, read_exponents


class Size:
    """A product of names with integer exponents, such as a*b^2; it does not change."""

    def __init__(self, exponents=None):
        given = {} if exponents is None else exponents
        if not _is_exponents(given):
            raise InvalidSize(exponents)
        self._exponents = {name: given[name] for name in sorted(given) if given[name] != 0}

    @classmethod
    def of(cls, **exponents):
        """The Size of the exponents that are passed by keywords."""
        return cls(exponents)

    @classmethod
    def read(cls, text):
        """The Size with this text."""
        if not isinstance(text, str):
            raise InvalidText(0)
        exponents = read_exponents(text)
        if exponents is None:
            raise InvalidText(1)
        return cls(exponents)

    @classmethod
    def product(cls, *sizes):
        """The product of all these Sizes, 1 without any."""
        check_sizes(sizes)
        return cls(added([size.exponents() for size in sizes]))

    @property
    def is_whole(self):
        """Whether no exponent is below 0."""
        return all([exponent >= 0 for exponent in self._exponents.values()])

    @property
    def top(self):
        """What stands above the line if the Size is written as a fraction."""
        return Size({name: count for name, count in self._exponents.items() if count > 0})

    @property
    def bottom(self):
        """What stands below the line if the Size is written as a fraction."""
        return Size({name: -count for name, count in self._exponents.items() if count < 0})

    def names(self):
        """The sorted list of the names."""
        return list(self._exponents)

    def exponents(self):
        """A dict of the exponents, its keys sorted."""
        return dict(self._exponents)

    def exponent(self, name):
        """The exponent of a name, 0 if the Size lacks it."""
        if not is_name(name):
            raise InvalidName(name)
        return self._exponents.get(name, 0)

    def over(self, other):
        """The quotient of this Size and the other one."""
        check_size(other)
        return Size(added([self._exponents, _times(other.exponents(), -1)]))

    def power(self, count):
        """The Size multiplied with itself, as many times as the count says."""
        if not is_count(count):
            raise InvalidCount(count)
        return Size(_times(self._exponents, count))

    def at(self, numbers):
        """The value at numbers."""
        check_numbers(numbers, self.names())
        pairs = orders(self._exponents, numbers)
        if any([order < 0 for _, order in pairs]):
            raise NotWhole(self)
        value = 1
        for base, order in pairs:
            value = value * raised(base, order)
        return value

    def at_point(self, point):
        """The exponent at a point."""
        check_point(point)
        return sum([count * point.get(name, 0) for name, count in self._exponents.items()])

    def __mul__(self, other):
        check_size(other)
        return Size(added([self._exponents, other.exponents()]))

    def __contains__(self, name):
        # Not every value can be looked up in a dict.
        return is_name(name) and name in self._exponents

    def __len__(self):
        return len(self._exponents)

    def __eq__(self, other):
        return isinstance(other, Size) and self._exponents == other._exponents

    def __str__(self):
        return str(exponents_text(self._exponents))

    def __repr__(self):
        return f"Size({exponents_text(self._exponents)!r})"


def check_size(value):
    """Raise unless the value is a Size."""
    if not isinstance(value, Size):
        raise InvalidSize(value)


def check_sizes(values):
    """Raise with the first value that is no Size."""
    for value in values:
        check_size(value)


def _is_exponents(value):
    """Whether any value is a dict from names to integers."""
    if not isinstance(value, dict):
        return False
    return all([is_name(name) and is_integer(value[name]) for name in value])


def _times(table, factor):
    """The dict of the exponents times a factor."""
    return {name: count * factor for name, count in table.items()}
