"""Lines of programs: which are right, and what is known of the arrays that they make.

`counts` is a dict from the names of the arrays that are there to their numbers of axes.
"""

from anyshape.kinds import is_integer
from anyshape.numbers import is_name
from anyshape.sizes import Size

WORDS = ("sum", "greatest", "least")
MOST_JOINED = 3


def is_size(value):
    """Whether any value is a whole Size."""
    return isinstance(value, Size) and value.is_whole


def are_sizes(value):
    """Whether any value is a tuple of whole Sizes."""
    return isinstance(value, tuple) and all([is_size(size) for size in value])


def is_line(value, counts):
    """Whether any value is a line that can stand behind these arrays."""
    if not isinstance(value, tuple) or len(value) < 4:
        return False
    made, word = value[:2]
    if not is_name(made) or made in counts or not isinstance(word, str) or word not in CHECKS:
        return False
    check = CHECKS[word]
    return check(value[2:], counts)


def arrays_read(line):
    """The list of the names of the arrays that a line reads, in sequence."""
    return list(line[3]) if line[1] == "cells" else [line[2]]


def new_sizes(line):
    """The tuple of the sizes that stand in a line."""
    if line[1] == "split":
        return line[4]
    return (line[4],) if line[1] == "spread" else ()


def axes_made(line, counts):
    """The number of axes of the array that a line makes."""
    many = max([counts[name] for name in arrays_read(line)])
    if line[1] == "merge":
        return many - line[4] + 1
    if line[1] in ("pick", "drop"):
        return many - 1
    if line[1] in WORDS:
        return many - len(line[3])
    return many + _axes_added(line)


def leaves_made(line, leaf_counts):
    """The number of leaves of the array that a line makes."""
    return sum([leaf_counts[name] for name in arrays_read(line)])


def _axes_added(line):
    """How many axes a line adds that takes none away but perhaps the one that it splits."""
    if line[1] == "split":
        return len(line[4]) - 1
    return 1 if line[1] == "spread" else 0


def _is_array(value, counts):
    """Whether any value is the name of an array that is there."""
    return isinstance(value, str) and value in counts


def _is_axis(value, many):
    """Whether any value is the number of one of so many axes."""
    return is_integer(value) and 0 <= value < many


def _is_one_axis(parts, counts):
    """Whether these are an array, and one of its axes."""
    return len(parts) == 2 and _is_array(parts[0], counts) and _is_axis(parts[1], counts[parts[0]])


def _is_merge(parts, counts):
    """Whether these are an array, an axis, and how many axes from there on it has."""
    if len(parts) != 3 or not _is_one_axis(parts[:2], counts):
        return False
    return is_integer(parts[2]) and 1 <= parts[2] <= counts[parts[0]] - parts[1]


def _is_split(parts, counts):
    """Whether these are an array, one of its axes, and at least one size."""
    if len(parts) != 3 or not _is_one_axis(parts[:2], counts):
        return False
    return are_sizes(parts[2]) and len(parts[2]) > 0


def _is_permute(parts, counts):
    """Whether these are an array, and all its axes in some order."""
    if len(parts) != 2 or not _is_array(parts[0], counts) or not isinstance(parts[1], tuple):
        return False
    many = counts[parts[0]]
    return all([_is_axis(axis, many) for axis in parts[1]]) and sorted(parts[1]) == list(range(many))


def _is_spread(parts, counts):
    """Whether these are an array, a place among its axes, and a size."""
    if len(parts) != 3 or not _is_array(parts[0], counts):
        return False
    return _is_axis(parts[1], counts[parts[0]] + 1) and is_size(parts[2])


def _is_cells(parts, counts):
    """Whether these are a letter, and one to three arrays."""
    if len(parts) != 2 or not is_name(parts[0]) or not isinstance(parts[1], tuple):
        return False
    return 0 < len(parts[1]) <= MOST_JOINED and all([_is_array(name, counts) for name in parts[1]])


def _is_over(parts, counts):
    """Whether these are an array, and at least one of its axes, in ascending order."""
    if len(parts) != 2 or not _is_array(parts[0], counts) or not isinstance(parts[1], tuple):
        return False
    axes = parts[1]
    if len(axes) == 0 or not all([_is_axis(axis, counts[parts[0]]) for axis in axes]):
        return False
    return all([one < other for one, other in zip(axes, axes[1:])])


CHECKS = {
    "merge": _is_merge,
    "split": _is_split,
    "permute": _is_permute,
    "turn": _is_one_axis,
    "pick": _is_one_axis,
    "spread": _is_spread,
    "drop": _is_one_axis,
    "cells": _is_cells,
    "sum": _is_over,
    "greatest": _is_over,
    "least": _is_over,
}
