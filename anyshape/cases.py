"""Cases: facts that hold together beside given ones, and which of them are weakest."""

from anyshape.counts import dot
from anyshape.facts import Equals, Fact
from anyshape.goals import Both, Either
from anyshape.kinds import is_list
from anyshape.proofs import point_against
from anyshape.rayfinding import find_rays
from anyshape.scales import Scales

LONGEST_CASE = 24


class Case:
    """Facts beside given ones, with the rays of them all.

    The rays tell at which points all these facts hold. So two cases mean the
    same beside the given facts exactly if they have the same rays.
    """

    def __init__(self, given, facts, names):
        self._facts = tuple(facts)
        self._rows = [[fact.exponent(name) for name in names] for fact in facts]
        self._rays = find_rays(list(given) + list(facts), names)

    def facts(self):
        """The list of the facts, without the given ones."""
        return list(self._facts)

    def rays(self):
        """The sorted list of the rays, each a tuple of counts for the names."""
        return list(self._rays)

    def follows_from(self, other):
        """Whether these facts hold wherever another case does."""
        rays = other.rays()
        for fact, row in zip(self._facts, self._rows):
            for counts in rays:
                if not fact.allows(dot(row, counts)):
                    return False
        return True


def case_number(goal):
    """The number of cases of a goal."""
    if isinstance(goal, Either):
        return sum([case_number(part) for part in goal.goals()])
    number = 1
    if isinstance(goal, Both):
        for part in goal.goals():
            number = number * case_number(part)
    return number


def cases_of(goal):
    """The list of the cases of a goal, tuples of facts; it holds exactly where one of them does."""
    # Parts of a goal without cases may have more of them than can be listed.
    if case_number(goal) == 0:
        return []
    if isinstance(goal, Either):
        return [case for part in goal.goals() for case in cases_of(part)]
    if isinstance(goal, Both):
        cases = [()]
        for part in goal.goals():
            further = cases_of(part)
            cases = [case + more for case in cases for more in further]
        return cases
    return [(goal,)]


def weakest_of(given, cases, names):
    """The weakest ones of some cases, each made lean."""
    return [_lean_case(given, case.facts()) for case in _weakest_cases(given, cases, names)]


def is_weakest_of(given, cases, names, value):
    """Whether any value is a list of the weakest ones of some cases, however they are told."""
    if not is_list(value) or not all([_is_case(case, names) for case in value]):
        return False
    weakest = _weakest_cases(given, cases, names)
    if len(value) != len(weakest):
        return False
    told = [find_rays(list(given) + list(case), names) for case in value]
    # No two of the weakest cases mean the same, so none may be missing.
    if sorted(told) != sorted([case.rays() for case in weakest]):
        return False
    return all([len(lean_positions(given, case)) == len(case) for case in value])


def lean_positions(given, facts):
    """The ascending list of the positions of the facts that are left if they are made lean beside given ones."""
    left = list(range(len(facts)))
    for position in range(len(facts) - 1, -1, -1):
        others = [at for at in left if at != position]
        scales = Scales(list(given) + [facts[at] for at in others])
        if point_against(scales, facts[position]) is None:
            left = others
    return left


def _lean_case(given, facts):
    """The tuple of the facts that are left if they are made lean beside given ones."""
    return tuple([facts[position] for position in lean_positions(given, facts)])


def _weakest_cases(given, cases, names):
    """The list of the cases that hold wherever any of them does, none of which follows from another one."""
    kept = []
    for facts in cases:
        case = Case(given, facts, names)
        if not any([other.follows_from(case) for other in kept]):
            kept = [other for other in kept if not case.follows_from(other)] + [case]
    return kept


def _is_case(value, names):
    """Whether any value is a tuple of not too many facts with these names alone."""
    if not isinstance(value, tuple) or len(value) > LONGEST_CASE:
        return False
    for fact in value:
        if not isinstance(fact, Fact) or any([name not in names for name in fact.names()]):
            return False
    return True
