"""Rows of digits: how a place is calculated from an index."""

from anyshape.checks import check_facts, joined_names
from anyshape.errors import InvalidDigits, InvalidIndex
from anyshape.failures import CannotCut
from anyshape.goals import names_in
from anyshape.kinds import is_integer, is_list
from anyshape.measures import product_of
from anyshape.numbers import check_numbers
from anyshape.scales import Scales
from anyshape.sizes import Size, check_size


class Digit:
    """The base of Unused, Straight and Turned; it is not created itself."""

    def __init__(self, radix, factor):
        self._radix = radix
        self._factor = factor

    @property
    def radix(self):
        """How many values the digit has, a Size."""
        return self._radix

    @property
    def factor(self):
        """By how much the place changes with the value, a Size, or None if the digit is unused."""
        return self._factor

    def turned(self):
        """The digit the other way."""
        return self


class Unused(Digit):
    """A digit that has no effect on the place."""

    WAY = "unused"

    def __init__(self, radix):
        check_size(radix)
        super().__init__(radix, None)

    @property
    def radix(self):
        """How many values the digit has, a Size."""
        return self._radix

    @property
    def factor(self):
        """None, as the digit is unused."""
        return None

    def turned(self):
        """The digit itself."""
        return self

    def __eq__(self, other):
        return isinstance(other, Unused) and self._radix == other._radix

    def __repr__(self):
        return f"Unused({self._radix!r})"


class Straight(Digit):
    """A digit with which the place grows."""

    WAY = "straight"

    def __init__(self, radix, factor):
        check_size(radix)
        check_size(factor)
        super().__init__(radix, factor)

    @property
    def radix(self):
        """How many values the digit has, a Size."""
        return self._radix

    @property
    def factor(self):
        """By how much the place grows with the value, a Size."""
        return self._factor

    def turned(self):
        """The same digit, but turned."""
        return Turned(self._radix, self._factor)

    def __eq__(self, other):
        return isinstance(other, Straight) and self._radix == other._radix and self._factor == other._factor

    def __repr__(self):
        return f"Straight({self._radix!r}, {self._factor!r})"


class Turned(Digit):
    """A digit with which the place falls."""

    WAY = "turned"

    def __init__(self, radix, factor):
        check_size(radix)
        check_size(factor)
        super().__init__(radix, factor)

    @property
    def radix(self):
        """How many values the digit has, a Size."""
        return self._radix

    @property
    def factor(self):
        """By how much the place falls with the value, a Size."""
        return self._factor

    def turned(self):
        """The same digit, but straight."""
        return Straight(self._radix, self._factor)

    def __eq__(self, other):
        return isinstance(other, Turned) and self._radix == other._radix and self._factor == other._factor

    def __repr__(self):
        return f"Turned({self._radix!r}, {self._factor!r})"


class Row:
    """A list of digits, the lowest first; it does not change."""

    def __init__(self, digits=()):
        if not is_list(digits):
            raise InvalidDigits(None)
        for position, digit in enumerate(digits):
            if not isinstance(digit, Digit):
                raise InvalidDigits(position)
        self._digits = list(digits)

    def digits(self):
        """The list of the digits."""
        return list(self._digits)

    @property
    def total(self):
        """The product of the radices."""
        return cuts_of(self._digits)[-1]

    def cuts(self):
        """The list of the products of the lowest radices, from 1 to the total."""
        return cuts_of(self._digits)

    def place(self, index, numbers):
        """The place of an index at numbers."""
        digits = digits_at(self._digits, numbers)
        if not is_integer(index) or not 0 <= index < product_of([radix for radix, _, _ in digits]):
            raise InvalidIndex(index)
        return place_at(digits, index)

    def melted(self, facts):
        """The row without digits that are always 1, and with those in one that always melt."""
        return Row(melted_digits(_scales_of(facts), self._digits))

    def cut_at(self, size, facts):
        """The row, if it is melted, cut at a Size that divides its total."""
        return Row(cut_digits(_scales_of(facts), self._digits, size)[0])

    def __len__(self):
        return len(self._digits)

    def __iter__(self):
        return iter(self._digits)

    def __eq__(self, other):
        return isinstance(other, Row) and self._digits == other._digits

    def __repr__(self):
        return f"Row({self._digits!r})"


def cuts_of(digits):
    """The list of the cuts of digits."""
    cuts = [Size()]
    for digit in digits:
        cuts.append(cuts[-1] * digit.radix)
    return cuts


def melted_digits(scales, digits):
    """The list of the digits, melted."""
    melted = []
    for digit in digits:
        if scales.is_one(digit.radix):
            continue
        if len(melted) > 0 and _melt(scales, melted[-1], digit):
            lower = melted.pop()
            melted.append(_with_parts(lower, lower.radix * digit.radix, lower.factor))
        else:
            melted.append(digit)
    return melted


def cut_digits(scales, digits, size):
    """A pair: the list of the digits, cut at a Size that divides their total, and the number of those below it."""
    cuts = cuts_of(digits)
    below = 0
    for position, cut in enumerate(cuts):
        if scales.equals(cut, size):
            return list(digits), position
        if scales.divides(cut, size):
            below = position
    if not scales.divides(size, cuts[below + 1]):
        raise CannotCut(size, cuts[below + 1])
    digit, part = digits[below], size.over(cuts[below])
    low = _with_parts(digit, part, digit.factor)
    high = _with_parts(digit, cuts[below + 1].over(size), None if digit.factor is None else digit.factor * part)
    return [*digits[:below], low, high, *digits[below + 1:]], below + 1


def digits_at(digits, numbers):
    """The list of the tuples (radix, factor, is_turned) of the digits at numbers, the factor 0 if a digit is unused."""
    sizes = [digit.radix for digit in digits] + [digit.factor for digit in digits if digit.factor is not None]
    check_numbers(numbers, [name for size in sizes for name in size.names()])
    # All radices come ahead of the factors, as the first one that is no integer is told.
    radices = [digit.radix.at(numbers) for digit in digits]
    factors = [0 if digit.factor is None else digit.factor.at(numbers) for digit in digits]
    turned = [isinstance(digit, Turned) for digit in digits]
    return list(zip(radices, factors, turned))


def place_at(digits, index):
    """The place of an index for the tuples of digits at numbers."""
    place = 0
    for radix, factor, is_turned in digits:
        index, value = divmod(index, radix)
        place = place + factor * (radix - 1 - value if is_turned else value)
    return place


def _scales_of(facts):
    """The scales of the facts; raise unless they are facts that can be asked about."""
    check_facts(facts)
    joined_names(names_in(facts), [])
    return Scales(facts)


def _melt(scales, lower, upper):
    """Whether two neighbours melt."""
    if lower.WAY != upper.WAY or lower.factor is None:
        return lower.WAY == upper.WAY
    return scales.equals(upper.factor, lower.factor * lower.radix)


def _with_parts(digit, radix, factor):
    """A digit of the same way with other parts."""
    if factor is None:
        return Unused(radix)
    return Turned(radix, factor) if isinstance(digit, Turned) else Straight(radix, factor)
