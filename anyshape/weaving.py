"""Trees of arrays, made line by line by a craft: a measure that can also cut rows of digits and change them.

A leaf is here a strand: a tuple (source, digits, tops, bound) of an input, the list of the digits for the flat index,
the lowest first, the list of the tops, and the list of the lists of digits for the words above it, the outermost
first. What a line does to the strands is told by boundaries, in ascending sequence, between which the digits are cut
into segments, and by pieces: tuples (what, part) that say what is made of which segment, from the lowest one on.
"""

from anyshape.failures import CannotCut, IsCrossed
from anyshape.lines import WORDS
from anyshape.programs import lines_behind


def woven_trees(craft, program, shapes, name):
    """A dict of the trees of an array and of those that it is made from; raise if it is crossed."""
    trees = {}
    for source, _ in program.inputs():
        digits = craft.melted([craft.plain(craft.times(shapes[source]))])
        trees[source] = ("in", (source, digits, [], []))
    lines = program.lines()
    for position in lines_behind(program, name):
        line = lines[position]
        try:
            trees[line[0]] = _line_tree(craft, line, shapes, trees)
        except CannotCut as barred:
            raise IsCrossed(position, barred.cut, barred.other) from None
    return trees


def changed_tree(tree, change):
    """The tree with what a function makes of each leaf in its place."""
    if tree[0] == "in":
        return "in", change(tree[1])
    if tree[0] == "let":
        return "let", tree[1], tuple([changed_tree(part, change) for part in tree[2]])
    return tree[0], tree[1], changed_tree(tree[2], change)


def leaves_in(tree):
    """The list of the leaves of a tree, from left to right."""
    if tree[0] == "in":
        return [tree[1]]
    if tree[0] == "let":
        return [leaf for part in tree[2] for leaf in leaves_in(part)]
    return leaves_in(tree[2])


def _line_tree(craft, line, shapes, trees):
    """The tree of the array that a line makes."""
    word = line[1]
    if word == "cells":
        parts = []
        for name in line[3]:
            boundaries, pieces = _filling(craft, shapes[name], shapes[line[0]])
            parts.append(_replaced(craft, trees[name], boundaries, pieces))
        return "let", line[2], tuple(parts)
    shape, tree = shapes[line[2]], trees[line[2]]
    if word in WORDS:
        runs = _runs_over(craft, shape, line[3])
        boundaries, pieces = _binding(craft, shape, runs)
        tree = _replaced(craft, tree, boundaries, pieces)
        for run in runs[::-1]:
            tree = (word, craft.times([shape[axis] for axis in run]), tree)
        return tree
    if word == "permute":
        boundaries, pieces = _moving(craft, shape, line[3])
    elif word == "spread":
        boundaries, pieces = _spreading(craft, shape, line)
    elif word in ("turn", "pick"):
        boundaries, pieces = _single(craft, shape, line)
    else:
        return tree
    return _replaced(craft, tree, boundaries, pieces)


def _replaced(craft, tree, boundaries, pieces):
    """The tree with all strands changed, if there are boundaries at which to cut them."""
    if len(boundaries) == 0:
        return tree
    return changed_tree(tree, lambda strand: _changed(craft, strand, boundaries, pieces))


def _changed(craft, strand, boundaries, pieces):
    """The strand that is put together from pieces, cut at the boundaries."""
    source, digits, tops, bound = strand
    ends = [0]
    for boundary in boundaries:
        digits, below = craft.parted(digits, boundary)
        ends.append(below)
    ends.append(len(digits))
    segments = [digits[begin:end] for begin, end in zip(ends, ends[1:])]
    row, further = [], []
    for what, part in pieces:
        if what == "keep":
            row.extend(segments[part])
        elif what == "turn":
            row.extend([craft.flipped(digit) for digit in segments[part]])
        elif what == "pick":
            tops = craft.settled(tops + craft.tops_left(segments[part]))
        elif what == "new":
            row.append(craft.unused(part))
        else:
            further.append(craft.melted(segments[part]))
    return source, craft.melted(row), tops, further[::-1] + bound


def _active(craft, shape):
    """The list of the axes whose size is not 1."""
    return [axis for axis, size in enumerate(shape) if not craft.is_one(size)]


def _ahead(craft, shape, axis):
    """The boundary ahead of an axis, or behind the last one."""
    return craft.times(shape[axis:])


def _filling(craft, shape, total):
    """How the strands of an array of this shape get the further axes of a line of cells with that shape."""
    lacking = len(total) - len(shape)
    boundaries, pieces = [], [("keep", 0)]
    for axis in _active(craft, total)[::-1]:
        own = max(axis - lacking, 0)
        if axis < lacking or craft.is_one(shape[own]):
            boundaries.append(_ahead(craft, shape, own))
            pieces.append(("new", total[axis]))
            pieces.append(("keep", len(boundaries)))
    return boundaries, pieces


def _runs_over(craft, shape, axes):
    """The list of the runs of neighbours among the active ones of some axes, each a list of axes."""
    runs = [[]]
    for axis in _active(craft, shape):
        if axis in axes:
            runs[-1].append(axis)
        elif len(runs[-1]) > 0:
            runs.append([])
    return [run for run in runs if len(run) > 0]


def _binding(craft, shape, runs):
    """How the digits of runs of axes become rows for the words of a line."""
    boundaries, pieces = [], [("keep", 0)]
    for run in runs[::-1]:
        boundaries.append(_ahead(craft, shape, run[-1] + 1))
        boundaries.append(_ahead(craft, shape, run[0]))
        pieces.append(("bind", len(boundaries) - 1))
        pieces.append(("keep", len(boundaries)))
    return boundaries, pieces


def _moving(craft, shape, order):
    """How the digits of axes are put into the sequence of a line that permutes them."""
    active = _active(craft, shape)
    places = [axis for axis in order if axis in active]
    groups = []
    for axis in active:
        if len(groups) > 0 and places.index(groups[-1][-1]) + 1 == places.index(axis):
            groups[-1].append(axis)
        else:
            groups.append([axis])
    groups = groups[::-1]
    boundaries = [_ahead(craft, shape, group[0]) for group in groups[:-1]]
    firsts = [group[0] for group in groups]
    moved = [axis for axis in places[::-1] if axis in firsts]
    return boundaries, [("keep", firsts.index(axis)) for axis in moved]


def _spreading(craft, shape, line):
    """How the strands get a new axis."""
    size = craft.measured(line[4])
    if craft.is_one(size):
        return [], []
    return [_ahead(craft, shape, line[3])], [("keep", 0), ("new", size), ("keep", 1)]


def _single(craft, shape, line):
    """How the digits of a single axis are turned or picked."""
    axis = line[3]
    if craft.is_one(shape[axis]):
        return [], []
    boundaries = [_ahead(craft, shape, axis + 1), _ahead(craft, shape, axis)]
    return boundaries, [("keep", 0), (line[1], 1), ("keep", 2)]
