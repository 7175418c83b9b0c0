"""Whether a size is always covered by others, and whether a program never makes greater arrays than another one."""

from anyshape.checks import check_facts, joined_names
from anyshape.covering import covering, is_covering
from anyshape.errors import InvalidSize, InvalidSizes
from anyshape.failures import TooMany
from anyshape.goals import names_in
from anyshape.joining import check_programs, joint_facts
from anyshape.kinds import is_list
from anyshape.lines import is_size
from anyshape.measures import BySizes
from anyshape.shapes import Answer, always_shapes, copied

MOST_SIZES = 27


class Covered(Answer):
    """Always one of the other sizes is at least as great: counts for them, and why a power divides their product."""

    def __init__(self, counts, reason):
        self.counts = copied(counts)
        self.reason = copied(reason)

    @property
    def is_yes(self):
        """Whether the answer is a yes."""
        return True

    def again(self):
        """An equal answer that shares no list and no dict with this one."""
        return Covered(self.counts, self.reason)

    def __eq__(self, other):
        return isinstance(other, Covered) and self.counts == other.counts and self.reason == other.reason

    def __repr__(self):
        return f"Covered({self.counts!r}, {self.reason!r})"


class Above(Answer):
    """At a point the size is greater than each of the others."""

    def __init__(self, point):
        self.point = copied(point)

    @property
    def is_yes(self):
        """Whether the answer is a yes."""
        return False

    def __eq__(self, other):
        return isinstance(other, Above) and self.point == other.point

    def __repr__(self):
        return f"Above({self.point!r})"


class NeverGreater(Answer):
    """Each array of the first program is covered by the arrays of the second one."""

    def __init__(self, covers):
        self.covers = copied(covers)

    @property
    def is_yes(self):
        """Whether the answer is a yes."""
        return True

    def __eq__(self, other):
        return isinstance(other, NeverGreater) and self.covers == other.covers

    def __repr__(self):
        return f"NeverGreater({self.covers!r})"


class Greater(Answer):
    """At a point an array of the first program has more cells than each array of the second one."""

    def __init__(self, name, point):
        self.name = copied(name)
        self.point = copied(point)

    @property
    def is_yes(self):
        """Whether the answer is a yes."""
        return False

    def __eq__(self, other):
        return isinstance(other, Greater) and self.name == other.name and self.point == other.point

    def __repr__(self):
        return f"Greater({self.name!r}, {self.point!r})"


def cover(size, others, facts=()):
    """Whether a size is covered by others: a Covered, or an Above."""
    check_cover(size, others, facts)
    found, point = covering(facts, size, others)
    if found is None:
        return Above(point)
    counts, reason = found
    return Covered(counts, reason)


def is_cover(size, others, value, facts=()):
    """Whether any value is a Covered that is right."""
    check_cover(size, others, facts)
    return isinstance(value, Covered) and is_covering(facts, size, others, value.counts, value.reason)


def never_greater(one, other):
    """Whether always some array of the second program has at least as many cells as each one of the first one."""
    check_programs(one, other)
    facts = joint_facts(one, other)
    measure = BySizes(facts)
    shapes = always_shapes(measure, one)
    further = always_shapes(measure, other)
    others = [measure.times(further[name]) for name in other.arrays()]
    covers = []
    for name in one.arrays():
        found, point = covering(facts, measure.times(shapes[name]), others)
        if found is None:
            return Greater(name, point)
        counts, reason = found
        covers.append(Covered(counts, reason))
    return NeverGreater(tuple(covers))


def check_cover(size, others, facts):
    """Raise unless one may ask whether a size is covered by others."""
    if not is_size(size):
        raise InvalidSize(size)
    if not is_list(others) or len(others) == 0:
        raise InvalidSizes(None)
    for position, other in enumerate(others):
        if not is_size(other):
            raise InvalidSizes(position)
    check_facts(facts)
    if len(others) > MOST_SIZES:
        raise TooMany("sizes", MOST_SIZES)
    joined_names(names_in(facts), [name for one in [size, *others] for name in one.names()])
