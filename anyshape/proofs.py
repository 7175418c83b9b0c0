"""What shows that goals follow from facts, or that they do not."""

from anyshape.facts import Divides, Equals
from anyshape.goals import Both, Either, names_in
from anyshape.kinds import is_count, is_integer
from anyshape.numbers import is_point


def quotients(fact):
    """The Sizes that are integers wherever the fact is kept, and only there."""
    forward = fact.other.over(fact.one)
    return [forward, fact.one.over(fact.other)] if isinstance(fact, Equals) else [forward]


def point_against(scales, fact):
    """A point that keeps the facts of the scales and does not keep this one, or None."""
    for size in quotients(fact):
        _, point = scales.weighed(size)
        if point is not None:
            return point
    return None


def points_against(scales, goal):
    """Points that keep the facts, at which each fact of the goal fails that does not follow.

    So the goal holds at these points exactly if it follows.
    """
    found = []
    for fact in goal.facts():
        point = point_against(scales, fact)
        if point is not None and point not in found:
            found.append(point)
    return found


def why_for(scales, goal):
    """A why of the goal, or None if it does not follow."""
    if isinstance(goal, Either):
        for position, part in enumerate(goal.goals()):
            found = why_for(scales, part)
            if found is not None:
                return position, found
        return None
    if isinstance(goal, Both):
        parts = [why_for(scales, part) for part in goal.goals()]
    else:
        parts = [scales.weighed(size)[0] for size in quotients(goal)]
    if any([part is None for part in parts]):
        return None
    return parts[0] if isinstance(goal, Divides) else tuple(parts)


def is_why_for(facts, goal, value):
    """Whether any value is a why of the goal."""
    if isinstance(goal, Either):
        if not is_tuple_of(value, 2) or not is_count(value[0]) or value[0] >= len(goal):
            return False
        return is_why_for(facts, goal.goals()[value[0]], value[1])
    if isinstance(goal, Both):
        if not is_tuple_of(value, len(goal)):
            return False
        return all([is_why_for(facts, part, why) for part, why in zip(goal.goals(), value)])
    if isinstance(goal, Equals):
        if not is_tuple_of(value, 2):
            return False
        return all([is_balance(facts, size, why) for size, why in zip(quotients(goal), value)])
    return is_balance(facts, quotients(goal)[0], value)


def is_balance(facts, size, value):
    """Whether any value is a why that 1 divides the Size."""
    if not is_tuple_of(value, 3):
        return False
    scale, weights, rest = value
    if not is_integer(scale) or scale < 1:
        return False
    # What is called a rest has the form of a point.
    if not _are_weights(facts, weights) or not is_point(rest):
        return False
    for name in sorted(set(size.names() + names_in(facts) + list(rest))):
        parts = [weight * fact.exponent(name) for weight, fact in zip(weights, facts)]
        if scale * size.exponent(name) != sum(parts) + rest.get(name, 0):
            return False
    return True


def is_tuple_of(value, many):
    """Whether any value is a tuple with so many items."""
    return isinstance(value, tuple) and len(value) == many


def _are_weights(facts, value):
    """Whether any value is a tuple of integers that may be the weights of the facts."""
    if not is_tuple_of(value, len(facts)):
        return False
    for fact, weight in zip(facts, value):
        if not is_integer(weight) or (weight < 0 and not isinstance(fact, Equals)):
            return False
    return True
