"""Cones: the points with some names that keep facts."""

from anyshape.checks import check_facts, check_names, joined_names
from anyshape.counts import named_counts
from anyshape.errors import InvalidCone
from anyshape.goals import names_in
from anyshape.numbers import is_point
from anyshape.rayfinding import find_rays


class Cone:
    """The points with some names alone that keep facts; it does not change."""

    def __init__(self, facts, *, names=()):
        check_facts(facts)
        check_names(names)
        self._names = joined_names(names_in(facts), names)
        self._facts = tuple(facts)
        self._rays = find_rays(self._facts, self._names)

    def facts(self):
        """The list of the facts."""
        return list(self._facts)

    def names(self):
        """The sorted list of the names."""
        return list(self._names)

    def rays(self):
        """The list of the rays, as points."""
        return [named_counts(self._names, counts) for counts in self._rays]

    def is_within(self, other):
        """Whether each point keeps the facts of the other cone, whatever counts are added."""
        check_cone(other)
        joined_names(self._names, other.names())
        lacking = [{name: 1} for name in other.names() if name not in self._names]
        points = self.rays() + lacking
        return all([fact.holds_for(points) for fact in other.facts()])

    def __and__(self, other):
        check_cone(other)
        both = Cone([], names=joined_names(self._names, other.names()))
        # More facts may come together here than may be passed.
        both._facts = self._facts + tuple(other.facts())
        both._rays = find_rays(both._facts, both._names)
        return both

    def __contains__(self, value):
        return is_point(value) and all([fact.kept_by(value) for fact in self._facts])

    def __len__(self):
        return len(self._rays)

    def __eq__(self, other):
        # Rays tell all points: each has a multiple that is a sum of multiples of rays.
        return isinstance(other, Cone) and self._names == other._names and self._rays == other._rays


def check_cone(value):
    """Raise unless the value is a Cone."""
    if not isinstance(value, Cone):
        raise InvalidCone(value)
