"""The rays of a cone: from those of all counts, cut by one row after another.

A ray is a pair (counts, zeros). The bits of zeros tell which of the conditions
so far the ray keeps with nothing to spare: counts of at least 0 first, then rows.
"""

from anyshape.counts import dot, without_divisor
from anyshape.facts import Equals


def find_rays(facts, names):
    """The sorted list of the rays, each a tuple of counts for the sorted names."""
    width = len(names)
    rays = [_unit_ray(place, width) for place in range(width)]
    # What must be equal leaves fewer rays, so it comes first.
    exact = [fact for fact in facts if isinstance(fact, Equals)]
    others = [fact for fact in facts if not isinstance(fact, Equals)]
    for position, fact in enumerate(exact + others):
        row = [fact.exponent(name) for name in names]
        rays = _cut_rays(rays, row, 1 << (width + position), isinstance(fact, Equals))
    return sorted([counts for counts, _ in rays])


def _unit_ray(place, width):
    """The ray with the count 1 in one place alone."""
    counts = tuple([1 if at == place else 0 for at in range(width)])
    return counts, (1 << width) - 1 - (1 << place)


def _cut_rays(rays, row, bit, is_exact):
    """The rays of what is left if the sum of the row must be at least 0, or exactly 0."""
    sums = [dot(row, counts) for counts, _ in rays]
    found = [(counts, zeros | bit) for (counts, zeros), total in zip(rays, sums) if total == 0]
    above = [(ray, total) for ray, total in zip(rays, sums) if total > 0]
    below = [(ray, total) for ray, total in zip(rays, sums) if total < 0]
    if not is_exact:
        found = found + [ray for ray, _ in above]
    masks = [zeros for _, zeros in rays]
    for high, high_sum in above:
        for low, low_sum in below:
            common = high[1] & low[1]
            if _is_side(masks, common, len(row) - 2):
                counts = [high_sum * two - low_sum * one for one, two in zip(high[0], low[0])]
                found.append((without_divisor(counts), common | bit))
    return found


def _is_side(masks, common, least):
    """Whether just two rays have all the zeros that two rays have in common.

    Only between such two does a new ray arise. They have at least as many zeros
    in common as a side needs, which is quick to see.
    """
    bits = f"{common:b}"
    if bits.count("1") < least:
        return False
    holders = 0
    for mask in masks:
        if mask & common == common:
            holders = holders + 1
            if holders > 2:
                return False
    return True
