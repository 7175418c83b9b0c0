"""Names that are always 1, names that are alike, and lean facts."""

from anyshape.cases import lean_positions
from anyshape.checks import check_facts, joined_names
from anyshape.cones import Cone
from anyshape.goals import names_in


def ones(facts, *, names=()):
    """The sorted list of the names that are always 1."""
    cone = Cone(facts, names=names)
    rays = cone.rays()
    return [name for name in cone.names() if not any([name in ray for ray in rays])]


def alike_names(facts, *, names=()):
    """The sorted list of the lists of two or more names that are always equal."""
    cone = Cone(facts, names=names)
    rays = cone.rays()
    groups = {}
    for name in cone.names():
        # Two names are equal at all points exactly if they are at all rays.
        counts = tuple([ray.get(name, 0) for ray in rays])
        groups.setdefault(counts, []).append(name)
    return sorted([group for group in groups.values() if len(group) > 1])


def lean(facts):
    """The ascending list of the positions of the facts that are left if they are made lean."""
    check_facts(facts)
    joined_names(names_in(facts), [])
    return lean_positions([], facts)
