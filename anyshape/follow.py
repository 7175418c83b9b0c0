"""What follows from facts, and what shows that it does or does not."""

from anyshape.checks import check_facts, check_question
from anyshape.counts import added
from anyshape.goals import names_in
from anyshape.kinds import is_list
from anyshape.numbers import is_point
from anyshape.proofs import is_why_for, points_against, why_for
from anyshape.scales import Scales
from anyshape.sizes import Size, check_sizes

MOST_GROUNDS = 60


class Always:
    """What is always so for facts, of Sizes with any exponents and any number of names."""

    def __init__(self, facts):
        check_facts(facts, MOST_GROUNDS)
        self._scales = Scales(facts)

    def divides(self, one, other):
        """Whether the first Size always divides the second one."""
        check_sizes([one, other])
        return self._scales.divides(one, other)

    def equals(self, one, other):
        """Whether the Sizes are always equal."""
        check_sizes([one, other])
        return self._scales.equals(one, other)

    def is_one(self, size):
        """Whether the Size is always 1."""
        check_sizes([size])
        return self._scales.is_one(size)


def follows(facts, goal):
    """Whether the goal follows from the facts."""
    check_question(facts, goal)
    return goal.holds_for(points_against(Scales(facts), goal))


def why(facts, goal):
    """A why of the goal, or None if it does not follow."""
    check_question(facts, goal)
    return why_for(Scales(facts), goal)


def against(facts, goal, *, full=False):
    """Points that show that the goal does not follow, or None if it does."""
    check_question(facts, goal)
    scales = Scales(facts)
    points = points_against(scales, goal)
    if goal.holds_for(points):
        return None
    if full is True:
        return points + _wide_points(scales, sorted(set(names_in(facts) + goal.names())))
    return points


def is_why(facts, goal, value):
    """Whether any value is a why of the goal."""
    check_question(facts, goal)
    return is_why_for(facts, goal, value)


def is_against(facts, goal, value):
    """Whether any value is a list of points that shows that the goal does not follow."""
    check_question(facts, goal)
    if not is_list(value) or not all([is_point(point) for point in value]):
        return False
    return all([fact.holds_for(value) for fact in facts]) and not goal.holds_for(value)


def _wide_points(scales, names):
    """A list of one point with each name that is not always 1, or of none without such names."""
    points = [scales.weighed(Size({name: -1}))[1] for name in names]
    wide = added([point for point in points if point is not None])
    return [wide] if wide else []
