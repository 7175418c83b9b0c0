"""Names, numbers for names, points, and the numbers that belong to points."""

from anyshape.errors import InvalidCount, InvalidName, InvalidNumbers, InvalidPoint, InvalidPoints
from anyshape.failures import TooMany
from anyshape.kinds import is_count, is_integer, is_list
from anyshape.powers import raised

LETTERS = "abcdefghijklmnopqrstuvwxyz"
LONGEST_NAME = 8
MOST_DIGITS = 500
# The least integer with too many digits; an exponent that is written ends at 64.
TOO_GREAT = (10 ** 50) ** 10
# 2 raised to a greater count has too many digits for sure.
GREATEST_COUNT = 2000


def is_name(value):
    """Whether any value is a name: one to eight letters from a to z."""
    if not isinstance(value, str) or len(value) < 1 or len(value) > LONGEST_NAME:
        return False
    return all([letter in LETTERS for letter in value])


def is_numbers(value):
    """Whether any value is a dict from names to integers of at least 1."""
    if not isinstance(value, dict):
        return False
    return all([is_name(name) and is_integer(value[name]) and value[name] >= 1 for name in value])


def is_point(value):
    """Whether any value is a dict from names to counts."""
    if not isinstance(value, dict):
        return False
    return all([is_name(name) and is_count(value[name]) for name in value])


def check_numbers(value, names):
    """Raise unless the value is numbers for the names."""
    if not is_numbers(value) or any([name not in value for name in names]):
        raise InvalidNumbers(value)


def check_point(value):
    """Raise unless the value is a point."""
    if not is_point(value):
        raise InvalidPoint(value)


def check_points(value):
    """Raise unless the value is a list of points."""
    if not is_list(value):
        raise InvalidPoints(None)
    for position, point in enumerate(value):
        if not is_point(point):
            raise InvalidPoints(position)


def primes(many):
    """The first primes, as many as are asked for."""
    if not is_count(many):
        raise InvalidCount(many)
    found = []
    number = 2
    while len(found) < many:
        if _has_no_divisor(number, found):
            found.append(number)
            yield number
        number = number + 1


def numbers_of(points, *names):
    """The numbers of the points, for the names in them and the further ones."""
    check_points(points)
    for name in names:
        if not is_name(name):
            raise InvalidName(name)
    known = [name for point in points for name in point]
    bases = list(primes(len(points)))
    return {name: _number_of(name, points, bases) for name in sorted(set(known + list(names)))}


def _number_of(name, points, bases):
    """The product of the bases, each raised to the count of the name in its point."""
    number = 1
    for base, point in zip(bases, points):
        count = point.get(name, 0)
        if count > GREATEST_COUNT:
            raise TooMany("digits", MOST_DIGITS)
        number = number * raised(base, count)
        if number >= TOO_GREAT:
            raise TooMany("digits", MOST_DIGITS)
    return number


def _has_no_divisor(number, smaller):
    """Whether none of the smaller primes, in ascending order, divides the number."""
    for prime in smaller:
        if prime * prime > number:
            return True
        if number % prime == 0:
            return False
    return True
