"""What a program needs in order to run, as weakest cases."""

from anyshape.cases import is_weakest_of, weakest_of
from anyshape.facts import Equals
from anyshape.failures import TooMany
from anyshape.measures import AsWritten
from anyshape.shaping import shapes_by
from anyshape.sizes import Size

MOST_PAIRS = 4
WAYS = (0, 1, 2)


class Supposing(AsWritten):
    """The values are Sizes; all conditions are supposed to hold, those of pairs in given ways."""

    def __init__(self, ways):
        self._left = list(ways)
        self._supposed = []

    def supposed(self):
        """The tuple of the facts that were supposed so far."""
        return tuple(self._supposed)

    def are_same(self, one, other):
        """True, as this is supposed."""
        self._supposed.append(Equals(one, other))
        return True

    def way(self, one, other):
        """The next one of the given ways."""
        way = self._left.pop(0)
        if way == 0:
            self.are_same(one, other)
        else:
            self.are_same(one if way == 1 else other, Size())
        return way


def pair_count(program):
    """The number of pairs of all lines of a program."""
    return sum([_pairs_of(program, line) for line in program.lines() if line[1] == "cells"])


def needs(program):
    """The needs of a program, a list of tuples of facts."""
    return weakest_of(program.facts(), _cases_of(program), program.names())


def is_needs(program, value):
    """Whether any value is needs of the program."""
    return is_weakest_of(program.facts(), _cases_of(program), program.names(), value)


def _pairs_of(program, line):
    """The number of pairs of a line of cells."""
    pairs = 0
    most = 0
    for name in line[3]:
        many = program.axis_count(name)
        pairs = pairs + min(most, many)
        most = max(most, many)
    return pairs


def _cases_of(program):
    """The list of the cases in which a program runs, one for all the ways of its pairs; raise if they are too many."""
    many = pair_count(program)
    if many > MOST_PAIRS:
        raise TooMany("pairs", MOST_PAIRS)
    chosen = [()]
    for _ in range(many):
        chosen = [ways + (way,) for ways in chosen for way in WAYS]
    return [_supposed_facts(program, ways) for ways in chosen]


def _supposed_facts(program, ways):
    """The facts without which a program does not run in these ways."""
    supposing = Supposing(ways)
    shapes_by(supposing, program)
    return supposing.supposed()
