"""Weakest cases: what must be known beside facts for a goal to follow."""

from anyshape.cases import case_number, cases_of, is_weakest_of, weakest_of
from anyshape.checks import check_question, joined_names
from anyshape.failures import TooMany
from anyshape.goals import names_in

MOST_CASES = 81


def weakest(facts, goal):
    """Weakest cases of the goal with the facts, a list of tuples of facts."""
    names = _checked_names(facts, goal)
    return weakest_of(facts, cases_of(goal), names)


def is_weakest(facts, goal, value):
    """Whether any value is weakest cases of the goal with the facts."""
    names = _checked_names(facts, goal)
    return is_weakest_of(facts, cases_of(goal), names, value)


def _checked_names(facts, goal):
    """The sorted list of the names of facts and goal; raise unless one may ask for weakest cases."""
    check_question(facts, goal)
    if case_number(goal) > MOST_CASES:
        raise TooMany("cases", MOST_CASES)
    return joined_names(names_in(facts), goal.names())
