"""Whether answers to questions about memory are right.

What is known is the answer that the package itself gives. The answers are of one column only, and which of them it is
does not depend on what is open. So a right answer is of the same class as the one that is known.
"""

from anyshape.kinds import is_list
from anyshape.memory import (Bent, HasWord, InPlace, Nest, NoNest, NotSingle, OtherSize, Overwritten, View, in_place,
                             is_nest, is_view, nest_of, view_of)
from anyshape.numbers import is_point
from anyshape.places import Crossed, is_same_crossed, leaves
from anyshape.scales import Scales
from anyshape.shapes import shape
from anyshape.sizes import Size
from anyshape.spots import is_bend_at, is_overwriting_at


def is_right_view(program, name, value):
    """Whether any value is a right answer to whether an array is a view."""
    known = view_of(program, name)
    if isinstance(known, View):
        return is_view(program, value, name)
    if isinstance(known, Crossed):
        return is_same_crossed(Scales(program.facts()), known, value)
    if isinstance(known, NotSingle):
        return isinstance(value, NotSingle)
    if not isinstance(value, Bent) or not _keeps(program, value.point):
        return False
    return is_bend_at(program, value.point, name, value.axis, value.bit)


def is_right_nest(program, name, value):
    """Whether any value is a right answer to which loops an array has."""
    known = nest_of(program, name)
    if isinstance(known, Nest):
        return is_nest(program, value, name)
    if isinstance(known, Crossed):
        return is_same_crossed(Scales(program.facts()), known, value)
    if isinstance(known, HasWord):
        return isinstance(value, HasWord)
    return isinstance(value, NoNest) and _are_parted(program, name, value)


def is_right_place(program, source, name, value):
    """Whether any value is a right answer to whether an array can be done in place of an input."""
    known = in_place(program, source, name)
    if isinstance(known, InPlace):
        return isinstance(value, InPlace)
    if isinstance(known, Crossed):
        return is_same_crossed(Scales(program.facts()), known, value)
    if isinstance(known, HasWord):
        return isinstance(value, HasWord)
    if isinstance(known, OtherSize):
        if not isinstance(value, OtherSize) or not _keeps(program, value.point):
            return False
        lengths = [sum([size.at_point(value.point) for size in shape(program, one)]) for one in (name, source)]
        return lengths[0] != lengths[1]
    if not isinstance(value, Overwritten) or not _keeps(program, value.point):
        return False
    return is_overwriting_at(program, value.point, source, name, value.leaf, value.bit)


def _keeps(program, value):
    """Whether any value is a point that keeps the facts of a program."""
    return is_point(value) and all([fact.kept_by(value) for fact in program.facts()])


def _are_parted(program, name, value):
    """Whether a NoNest tells two cuts of leaves, and points at which neither divides the other."""
    if not isinstance(value.one, Size) or not isinstance(value.other, Size) or not is_list(value.points):
        return False
    if not all([_keeps(program, point) for point in value.points]):
        return False
    scales = Scales(program.facts())
    cuts = [cut for leaf in leaves(program, name) for cut in leaf.row.cuts()]
    for told in (value.one, value.other):
        if not any([scales.equals(cut, told) for cut in cuts]):
            return False
    orders = [value.one.at_point(point) - value.other.at_point(point) for point in value.points]
    return any([order > 0 for order in orders]) and any([order < 0 for order in orders])
