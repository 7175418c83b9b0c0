"""Whether two programs make the same array, whatever the sizes and the cells are."""

from anyshape.bitruns import parting_at
from anyshape.choices import telling_choice
from anyshape.checks import joined_names
from anyshape.facts import Equals
from anyshape.joining import compared_facts, with_facts
from anyshape.judged import Judged, are_alike, are_alike_for, have_same_sizes
from anyshape.measures import BySizes
from anyshape.places import Crossed
from anyshape.shapes import Answer, copied, fails_of
from anyshape.shaping import totals_by
from anyshape.strands import SizeRows

SHAPE_WAYS = ("axes", "axis")
CELL_WAYS = ("node", "count", "bits", "place")


class Alike(Answer):
    """The programs are alike, for reasons: tuples of a fact and a why that it follows from the joint facts."""

    def __init__(self, reasons):
        self.reasons = copied(reasons)

    @property
    def is_yes(self):
        """Whether the answer is a yes."""
        return True

    def __eq__(self, other):
        return isinstance(other, Alike) and self.reasons == other.reasons

    def __repr__(self):
        return f"Alike({self.reasons!r})"


class Unlike(Answer):
    """The programs are unlike: at a point their results part in this way."""

    def __init__(self, point, what, where):
        self.point = copied(point)
        self.what = copied(what)
        self.where = copied(where)

    @property
    def is_yes(self):
        """Whether the answer is a yes."""
        return False

    def __eq__(self, other):
        return (isinstance(other, Unlike) and self.point == other.point
                and self.what == other.what and self.where == other.where)

    def __repr__(self):
        return f"Unlike({self.point!r}, {self.what!r}, {self.where!r})"


class Stopped(Answer):
    """One of the programs, the first one being 0, fails or is crossed."""

    def __init__(self, which, answer):
        self.which = copied(which)
        self.answer = copied(answer)

    @property
    def is_yes(self):
        """Whether the answer is a yes."""
        return False

    def __eq__(self, other):
        return isinstance(other, Stopped) and self.which == other.which and self.answer == other.answer

    def __repr__(self):
        return f"Stopped({self.which!r}, {self.answer!r})"


def alike(one, other):
    """Whether the programs are alike for their joint facts: a lean Alike, an Unlike or a Stopped."""
    facts = compared_facts(one, other)
    craft = SizeRows(facts)
    judged = [Judged(craft, one), Judged(craft, other)]
    for which, known in enumerate(judged):
        if known.broken() is not None:
            return Stopped(which, fails_of(craft, known.broken()))
    if not have_same_sizes(craft, judged[0], judged[1]):
        return _unlike(one, other, facts, SHAPE_WAYS)
    for which, known in enumerate(judged):
        if known.crossed() is not None:
            line, cut, barrier = known.crossed()
            return Stopped(which, Crossed(line, cut, barrier))
    if are_alike(craft, judged[0], judged[1]):
        return Alike([_given_reason(facts, position) for position in _lean_positions(one, other, facts)])
    return _unlike(one, other, facts, CELL_WAYS)


def telling_point(one, other):
    """A point at which the results part if they part at any, or None if this is stopped."""
    answer = alike(one, other)
    if isinstance(answer, Stopped):
        return None
    # Alike programs part nowhere; so all points that keep the facts tell as much.
    return answer.point if isinstance(answer, Unlike) else {}


def _lean_positions(one, other, facts):
    """The list of the positions of the joint facts that are left if each one is left out that is not needed."""
    # Mostly no fact at all is needed, which is seen at once.
    if are_alike_for(SizeRows([]), one, other):
        return []
    left = list(range(len(facts)))
    for position in range(len(facts) - 1, -1, -1):
        others = [at for at in left if at != position]
        if are_alike_for(SizeRows([facts[at] for at in others]), one, other):
            left = others
    return left


def _given_reason(facts, position):
    """The reason for a fact that is one of the joint facts."""
    weights = tuple([1 if at == position else 0 for at in range(len(facts))])
    reason = (1, weights, {})
    if isinstance(facts[position], Equals):
        reason = (reason, (1, tuple([-weight for weight in weights]), {}))
    return facts[position], reason


def _unlike(one, other, facts, ways):
    """The Unlike of two programs that part in one of these ways at a telling point."""
    first, second = with_facts(one, facts), with_facts(other, facts)
    names = joined_names(one.names(), other.names())
    measure = BySizes(facts)
    totals = totals_by(measure, one) + totals_by(measure, other)
    point, parting = telling_choice(facts, names, totals, lambda tried: _parting_in(ways, first, second, tried))
    return Unlike(point, parting[0], parting[1])


def _parting_in(ways, one, other, point):
    """In which of these ways the results part at a point, or None if in none."""
    parting = parting_at(one, other, point)
    return parting if parting is not None and parting[0] in ways else None
