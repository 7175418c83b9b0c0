"""Points that tell: one choice of exponents at which all sizes are different that are not always equal.

Such a point is a sum of multiples of points that span a cone. A Size that is not always 1 has an exponent other than 0
at one of these; so it has at the sum, if each multiple is far greater than the ones before it.
"""

from anyshape.counts import added, named_counts, without_divisor
from anyshape.rayfinding import find_rays

# These few multiples are tried in place of a great one.
FEW = (0, 1, 2, 3)


def telling_choice(facts, names, totals, finds):
    """A pair: a small point that keeps facts, at which a function finds something, and what it finds there.

    The names are sorted, and have those of the facts among them. The function takes a point and returns None where it
    finds nothing. It finds something wherever certain Sizes are different that are not always equal, the quotients of
    which have exponents, at each point, between the sum of those of the totals and its negative.
    """
    spanning = spanning_points(facts, names)
    multiples = _far_multiples(spanning, totals)
    best = _summed(spanning, multiples)
    found = finds(best)
    for position in range(len(multiples)):
        for few in FEW:
            tried = multiples[:position] + [few] + multiples[position + 1:]
            point = _summed(spanning, tried)
            nearer = finds(point)
            if nearer is not None:
                multiples, best, found = tried, point, nearer
                break
    return best, found


def spanning_points(facts, names):
    """A list of rays such that a Size is always 1 exactly if its exponent is 0 at each of them."""
    rays = find_rays(facts, names)
    short = sorted([(sum(counts), counts) for counts in rays])
    reduced, spanning = [], []
    for _, counts in short:
        left = list(counts)
        for pivot, row in reduced:
            factor = left[pivot]
            left = [row[pivot] * count - factor * entry for count, entry in zip(left, row)]
        places = [place for place, count in enumerate(left) if count != 0]
        if len(places) > 0:
            reduced.append((places[0], without_divisor(left)))
            spanning.append(named_counts(names, counts))
    return spanning


def _far_multiples(spanning, totals):
    """The list of a multiple for each point, each far greater than the ones before it."""
    sums = [sum([total.at_point(point) for total in totals]) for point in spanning]
    base = 2 * max(sums, default=0) + 3
    multiples = []
    for _ in spanning:
        multiples.append(multiples[-1] * base if len(multiples) > 0 else 1)
    return multiples


def _summed(points, multiples):
    """The sum of multiples of points."""
    parts = [{name: count * multiple for name, count in point.items()} for point, multiple in zip(points, multiples)]
    total = added(parts)
    return {name: count for name, count in total.items() if count > 0}
