"""The shapes of the arrays of a program by a measure, and the first condition that does not hold.

A condition that does not hold is told as a tuple (axis, one, other, is_pair): one and other should be equal, or, if
they are a pair of a line of cells, one of them might also be 1.
"""

from anyshape.lines import arrays_read
from anyshape.sizes import Size


def shapes_by(measure, program):
    """A pair: a dict from the names of the arrays to their shapes, and None if all conditions hold.

    Otherwise the dict has the arrays ahead of the first line of which a condition does not hold, and the second part is
    a tuple of the position of this line and the condition.
    """
    shapes = {}
    for name, axes in program.inputs():
        shapes[name] = tuple([measure.measured(size) for size in axes])
    for position, line in enumerate(program.lines()):
        shape, broken = line_shape(measure, line, [shapes[name] for name in arrays_read(line)])
        if broken is not None:
            return shapes, (position, broken)
        shapes[line[0]] = shape
    return shapes, None


def totals_by(measure, program):
    """The list of the numbers of cells of all arrays of a program of which all conditions hold."""
    shapes, _ = shapes_by(measure, program)
    return [measure.times(shape) for shape in list(shapes.values())]


def line_shape(measure, line, shapes):
    """The shape that a line makes from the shapes that it reads, and None, or None and the condition that is broken."""
    word, shape = line[1], shapes[0]
    if word == "cells":
        return _joined(measure, shapes)
    if word == "permute":
        return tuple([shape[axis] for axis in line[3]]), None
    if word == "spread":
        return shape[:line[3]] + (measure.measured(line[4]),) + shape[line[3]:], None
    if word == "merge":
        end = line[3] + line[4]
        return shape[:line[3]] + (measure.times(shape[line[3]:end]),) + shape[end:], None
    if word == "turn":
        return shape, None
    if word in ("split", "drop"):
        return _refilled(measure, line, shape)
    gone = (line[3],) if word == "pick" else line[3]
    return tuple([size for axis, size in enumerate(shape) if axis not in gone]), None


def _refilled(measure, line, shape):
    """The shape with the sizes of a split, or none for a drop, in place of an axis that their product must equal."""
    axis = line[3]
    sizes = [measure.measured(size) for size in line[4]] if line[1] == "split" else []
    one, other = measure.times(sizes), shape[axis]
    if line[1] == "drop":
        # The condition says this of the size first, then of 1.
        one, other = other, one
    if not measure.are_same(one, other):
        return None, (axis, one, other, False)
    return shape[:axis] + tuple(sizes) + shape[axis + 1:], None


def _joined(measure, shapes):
    """The shape that a line of cells makes, and None, or None and the condition that is broken."""
    most = max([len(shape) for shape in shapes])
    # The last axis comes first here: there all shapes begin.
    sizes = list(shapes[0][::-1])
    for shape in shapes[1:]:
        for back, size in enumerate(shape[::-1]):
            if back == len(sizes):
                # So far the axis is an added one, and equal sizes are told as the first one.
                sizes.append(measure.measured(Size()) if measure.is_one(size) else size)
                continue
            way = measure.way(sizes[back], size)
            if way is None:
                return None, (most - 1 - back, sizes[back], size, True)
            if way == 1:
                sizes[back] = size
    return tuple(sizes[::-1]), None
