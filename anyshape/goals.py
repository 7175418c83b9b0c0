"""Goals: what may hold of sizes, at numbers or at points."""

from anyshape.errors import InvalidGoal
from anyshape.failures import TooMany
from anyshape.numbers import check_numbers, check_points

MOST_FACTS = 12
MOST_DEPTH = 6


class Goal:
    """The base of Fact, Both and Either; it is not created itself."""

    def __init__(self, goals=()):
        self._goals = tuple(goals)

    def facts(self):
        """The list of all facts in it, from left to right."""
        return facts_in(self._goals)

    def names(self):
        """The sorted list of all names."""
        return names_in(self._goals)

    @property
    def depth(self):
        """How deep its goals are nested."""
        return depth_over(self._goals)

    def holds_at(self, numbers):
        """Whether it holds at numbers for its names."""
        check_numbers(numbers, self.names())
        return all([goal.holds_at(numbers) for goal in self._goals])

    def holds_for(self, points):
        """Whether it holds at a list of points."""
        check_points(points)
        return all([goal.holds_for(points) for goal in self._goals])


class Both(Goal):
    """The goal that each of some goals holds."""

    def __init__(self, *goals):
        check_parts(goals)
        super().__init__(goals)

    def goals(self):
        """The list of its goals."""
        return list(self._goals)

    def facts(self):
        """The list of all facts in it, from left to right."""
        return super().facts()

    def names(self):
        """The sorted list of all names."""
        return super().names()

    @property
    def depth(self):
        """How deep its goals are nested."""
        return depth_over(self._goals)

    def holds_at(self, numbers):
        """Whether each of its goals holds at numbers for its names."""
        return super().holds_at(numbers)

    def holds_for(self, points):
        """Whether each of its goals holds at a list of points."""
        return super().holds_for(points)

    def __len__(self):
        return len(self._goals)

    def __eq__(self, other):
        return isinstance(other, Both) and self._goals == other._goals

    def __str__(self):
        return f"both({texts_of(self._goals)})"

    def __repr__(self):
        return f"Both({codes_of(self._goals)})"


class Either(Goal):
    """The goal that at least one of some goals holds."""

    def __init__(self, *goals):
        check_parts(goals)
        super().__init__(goals)

    def goals(self):
        """The list of its goals."""
        return list(self._goals)

    def facts(self):
        """The list of all facts in it, from left to right."""
        return super().facts()

    def names(self):
        """The sorted list of all names."""
        return super().names()

    @property
    def depth(self):
        """How deep its goals are nested."""
        return depth_over(self._goals)

    def holds_at(self, numbers):
        """Whether one of its goals holds at numbers for its names."""
        check_numbers(numbers, self.names())
        return any([goal.holds_at(numbers) for goal in self._goals])

    def holds_for(self, points):
        """Whether one of its goals holds at a list of points."""
        check_points(points)
        return any([goal.holds_for(points) for goal in self._goals])

    def __len__(self):
        return len(self._goals)

    def __eq__(self, other):
        return isinstance(other, Either) and self._goals == other._goals

    def __str__(self):
        return f"either({texts_of(self._goals)})"

    def __repr__(self):
        return f"Either({codes_of(self._goals)})"


def facts_in(goals):
    """The list of all facts in the goals, from left to right."""
    return [fact for goal in goals for fact in goal.facts()]


def names_in(goals):
    """The sorted list of all names in the goals."""
    return sorted(set([name for goal in goals for name in goal.names()]))


def depth_over(goals):
    """The depth of what consists of these goals."""
    return 1 + max([goal.depth for goal in goals], default=0)


def texts_of(goals):
    """The texts of the goals, one after another."""
    return ", ".join([str(goal) for goal in goals])


def codes_of(goals):
    """The goals as they are created, one after another."""
    return ", ".join([repr(goal) for goal in goals])


def check_parts(goals):
    """Raise unless one goal may consist of all these values."""
    for goal in goals:
        if not isinstance(goal, Goal):
            raise InvalidGoal(goal)
    if len(facts_in(goals)) > MOST_FACTS:
        raise TooMany("goal", MOST_FACTS)
    if depth_over(goals) > MOST_DEPTH:
        raise TooMany("depth", MOST_DEPTH)
