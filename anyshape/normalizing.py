"""How trees at all sizes are made normal, and when two normal trees are the same.

The digits of a word are tuples (radix, entries); an entry is a tuple (factor, is_turned), or None.
"""

from anyshape.lines import WORDS
from anyshape.rows import Row
from anyshape.sizes import Size
from anyshape.words import bound_rows, word_parts


def normalized(scales, tree, depth=0):
    """The normal tree of a tree under so many words, none of them crossed."""
    if tree[0] == "in":
        source, digits, tops, _ = tree[1]
        return "in", source, Row(digits), tuple(tops)
    if tree[0] == "let":
        return "let", tree[1], tuple([normalized(scales, part, depth) for part in tree[2]])
    word, _, below = tree
    used, unused = [], []
    for radix, entries in word_parts(scales, bound_rows(below, depth)):
        first = _first_entry(entries)
        if first is None:
            unused.append(radix)
        elif not scales.is_one(radix):
            used.append((radix, _turned(entries) if first[1] else entries))
    count = Size.product(*unused) if word == "sum" else Size()
    inner = normalized(scales, below, depth + 1)
    if inner[0] == word:
        used = used + list(inner[2])
        count = count * inner[1]
        inner = inner[3]
    if len(used) == 0 and scales.is_one(count):
        return inner
    return word, count, tuple(_joined(scales, used)), inner


def are_same_trees(scales, one, other):
    """Whether two normal trees are the same."""
    if one[0] != other[0]:
        return False
    if one[0] == "in":
        return (one[1] == other[1] and _are_same_rows(scales, one[2], other[2])
                and _are_same_tops(scales, one[3], other[3]))
    if one[0] in WORDS:
        if not scales.equals(one[1], other[1]) or not _are_same_digits(scales, one[2], other[2]):
            return False
        return are_same_trees(scales, one[3], other[3])
    if one[1] != other[1] or len(one[2]) != len(other[2]):
        return False
    return all([are_same_trees(scales, part, further) for part, further in zip(one[2], other[2])])


def _first_entry(entries):
    """The first entry that is not None, or None if there is none."""
    for entry in entries:
        if entry is not None:
            return entry
    return None


def _turned(entries):
    """The entries, each the other way."""
    return tuple([None if entry is None else (entry[0], not entry[1]) for entry in entries])


def _joined(scales, digits):
    """The list of the digits, each joined with the one that goes on with it at each leaf."""
    left = list(digits)
    joined = []
    while len(left) > 0:
        digit = left.pop()
        upper = _going_on(scales, digit, left)
        lower = None if upper is not None else _going_on(scales, digit, joined)
        if upper is not None:
            left.append((digit[0] * left[upper][0], digit[1]))
            left.pop(upper)
        elif lower is not None:
            left.append((digit[0] * joined[lower][0], digit[1]))
            joined.pop(lower)
        else:
            joined.append(digit)
    return joined


def _going_on(scales, digit, others):
    """The position of the digit among others that goes on with one at each leaf, or None."""
    for position, other in enumerate(others):
        if all([_goes_on(scales, digit[0], lower, upper) for lower, upper in zip(digit[1], other[1])]):
            return position
    return None


def _goes_on(scales, radix, lower, upper):
    """Whether an entry goes on with that of a digit with this radix."""
    if lower is None or upper is None:
        return lower is None and upper is None
    return lower[1] == upper[1] and scales.equals(lower[0] * radix, upper[0])


def _are_same_rows(scales, one, other):
    """Whether two rows have the same digits."""
    if len(one) != len(other):
        return False
    for digit, further in zip(one, other):
        if digit.WAY != further.WAY or not scales.equals(digit.radix, further.radix):
            return False
        if digit.factor is not None and not scales.equals(digit.factor, further.factor):
            return False
    return True


def _are_same_tops(scales, one, other):
    """Whether two tuples of tops have the same Sizes."""
    if len(one) != len(other):
        return False
    return all([scales.equals(low, further_low) and scales.equals(high, further_high)
                for (low, high), (further_low, further_high) in zip(one, other)])


def _are_same_digits(scales, one, other):
    """Whether two tuples of the digits of a word have, in some order, the same ones."""
    if len(one) != len(other):
        return False
    # Different digits of a word go to different places, so none can be taken for two.
    return all([any([_are_same_parts(scales, digit, further) for further in other]) for digit in one])


def _are_same_parts(scales, one, other):
    """Whether two digits of a word have the same radix and entries."""
    if not scales.equals(one[0], other[0]):
        return False
    for entry, further in zip(one[1], other[1]):
        if entry is None or further is None:
            if entry is not None or further is not None:
                return False
        elif entry[1] != further[1] or not scales.equals(entry[0], further[0]):
            return False
    return True
