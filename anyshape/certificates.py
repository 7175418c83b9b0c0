"""Run certificates: a proof for each condition of a program, in the sequence in which they are looked at.

The sizes along the lines are those that the certificate itself chooses; so each proof is checked by itself.
"""

from anyshape.facts import Equals
from anyshape.kinds import is_integer, is_list
from anyshape.measures import AsWritten
from anyshape.proofs import is_tuple_of, is_why_for, why_for
from anyshape.scales import Scales
from anyshape.shaping import shapes_by
from anyshape.sizes import Size

WAYS = (0, 1, 2)


class Proving(AsWritten):
    """The values are Sizes; of all conditions that are looked at, what proves them is kept."""

    def __init__(self, facts):
        self._scales = Scales(facts)
        self._found = []

    def found(self):
        """The list of what was found so far."""
        return list(self._found)

    def are_same(self, one, other):
        """Whether a proof is found that two sizes are equal."""
        reason = why_for(self._scales, Equals(one, other))
        self._found.append(reason)
        return reason is not None

    def way(self, one, other):
        """The first way in which two sizes are proved to be joined, or None."""
        for way in WAYS:
            reason = why_for(self._scales, way_fact(way, one, other))
            if reason is not None:
                self._found.append((way, reason))
                return way
        return None


class Checking(AsWritten):
    """The values are Sizes; the proofs of the conditions that are looked at are those of a list."""

    def __init__(self, facts, proofs):
        self._facts = list(facts)
        self._left = list(proofs)

    def left(self):
        """The list of the proofs that were not asked for."""
        return list(self._left)

    def are_same(self, one, other):
        """Whether the next proof shows that two sizes are equal."""
        return len(self._left) > 0 and is_why_for(self._facts, Equals(one, other), self._left.pop(0))

    def way(self, one, other):
        """The way in which two sizes are joined, if the next proof shows that they are, or None."""
        told = self._left.pop(0) if len(self._left) > 0 else None
        if not is_tuple_of(told, 2) or not is_integer(told[0]) or told[0] not in WAYS:
            return None
        return told[0] if is_why_for(self._facts, way_fact(told[0], one, other), told[1]) else None


def way_fact(way, one, other):
    """The fact that lets two sizes of a pair be joined in a way."""
    if way == 0:
        return Equals(one, other)
    return Equals(one if way == 1 else other, Size())


def certificate_of(program):
    """A run certificate of a program, or None if it does not always run."""
    proving = Proving(program.facts())
    _, broken = shapes_by(proving, program)
    return proving.found() if broken is None else None


def is_certificate_of(program, value):
    """Whether any value is a run certificate of a program."""
    if not is_list(value):
        return False
    checking = Checking(program.facts(), value)
    _, broken = shapes_by(checking, program)
    return broken is None and len(checking.left()) == 0
