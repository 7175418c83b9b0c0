"""Whether a Size is covered by others, with counts and a proof, or a point against it."""

from anyshape.balance import balanced
from anyshape.counts import common_divisor, named_counts
from anyshape.facts import Divides, Equals
from anyshape.goals import names_in
from anyshape.kinds import is_count
from anyshape.proofs import is_tuple_of, is_why_for
from anyshape.scales import joined_weights
from anyshape.sizes import Size


def covering(facts, size, others):
    """A pair: the counts and the why of a cover and None, or None and a point at which the Size is above all others.

    There is a further place beside those of the names: it has -1 for each other Size, and in the goal. So the counts of
    the others have at least the sum 1 in a balance, and counts against it tell by how much the Size is above them.
    """
    names = sorted(set(names_in(facts) + [name for one in [size, *others] for name in one.names()]))
    is_exact = [isinstance(fact, Equals) for fact in facts]
    rows = [[fact.exponent(name) for name in names] + [0] for fact in facts]
    rows = rows + [[-exponent for exponent in row] for row, is_one_exact in zip(rows, is_exact) if is_one_exact]
    lacks = [[size.over(other).exponent(name) for name in names] + [-1] for other in others]
    amounts, counts = balanced(rows + lacks, [0] * len(names) + [-1])
    if amounts is None:
        return None, named_counts(names, counts[:-1])
    parts = amounts[1:]
    weights = joined_weights(is_exact, parts[:len(rows)])
    shares = parts[len(rows):len(rows) + len(others)]
    rest = parts[len(rows) + len(others):-1]
    common = common_divisor(weights + shares + rest)
    why = (1, tuple([weight // common for weight in weights]), named_counts(names, [part // common for part in rest]))
    return (tuple([share // common for share in shares]), why), None


def is_covering(facts, size, others, counts, reason):
    """Whether any values are counts for the others, and a why that the power of the Size divides their product."""
    if not is_tuple_of(counts, len(others)) or not all([is_count(count) for count in counts]) or sum(counts) < 1:
        return False
    powers = [other.power(count) for other, count in zip(others, counts)]
    product = Size.product(*powers)
    return is_why_for(facts, Divides(size.power(sum(counts)), product), reason)


def is_above(facts, size, others, point):
    """Whether the Size is above all others at a point, which keeps the facts."""
    if not all([fact.kept_by(point) for fact in facts]):
        return False
    return all([other.at_point(point) < size.at_point(point) for other in others])
