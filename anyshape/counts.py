"""Lists of integers, one for each name or place."""

from math import gcd


def dot(row, counts):
    """The sum of the products of two lists, place by place."""
    return sum([factor * count for factor, count in zip(row, counts)])


def common_divisor(counts):
    """The greatest integer that divides all of the counts, 0 if all are 0."""
    common = 0
    for count in counts:
        common = gcd(common, count)
    return common


def without_divisor(counts):
    """The tuple of the counts, not all 0, without a common divisor above 1."""
    common = common_divisor(counts)
    return tuple([count // common for count in counts])


def named_counts(names, counts):
    """The dict of the counts above 0 for the names."""
    return {name: count for name, count in zip(names, counts) if count > 0}


def added(tables):
    """The dict of the sums of what the dicts have for each name, its keys sorted."""
    total = {}
    for table in tables:
        for name, count in table.items():
            total[name] = total.get(name, 0) + count
    return {name: total[name] for name in sorted(total)}
