"""Checks of what the functions about facts are given."""

from anyshape.errors import InvalidFacts, InvalidGoal, InvalidNames
from anyshape.facts import Fact
from anyshape.failures import TooMany
from anyshape.goals import MOST_FACTS, Goal, names_in
from anyshape.kinds import is_list
from anyshape.numbers import is_name

MOST_NAMES = 8


def check_facts(facts, limit=MOST_FACTS):
    """Raise unless the value is a list of at most so many facts."""
    if not is_list(facts):
        raise InvalidFacts(None)
    for position, fact in enumerate(facts):
        if not isinstance(fact, Fact):
            raise InvalidFacts(position)
    if len(facts) > limit:
        raise TooMany("facts", limit)


def check_goal(goal):
    """Raise unless the value is a goal."""
    if not isinstance(goal, Goal):
        raise InvalidGoal(goal)


def check_names(names):
    """Raise unless the value is a list of names."""
    if not is_list(names):
        raise InvalidNames(None)
    for position, name in enumerate(names):
        if not is_name(name):
            raise InvalidNames(position)


def joined_names(one, other):
    """The sorted list of the names in two lists; raise if these are too many."""
    names = sorted(set(list(one) + list(other)))
    if len(names) > MOST_NAMES:
        raise TooMany("names", MOST_NAMES)
    return names


def check_question(facts, goal):
    """Raise unless one may ask whether the goal follows from the facts."""
    check_facts(facts)
    check_goal(goal)
    joined_names(names_in(facts), goal.names())
