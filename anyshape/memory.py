"""Memory: whether an array is only another view of an input, its loops, and whether it can be done in place."""

from anyshape.choices import telling_choice
from anyshape.failures import IsCrossed, TooMany, UnknownArray
from anyshape.layouts import (are_loops, are_steps_like, are_unmoved, chained, is_start_like, start_at, start_of,
                              step_at, steps_along)
from anyshape.measures import product_of
from anyshape.places import Crossed
from anyshape.proofs import is_tuple_of
from anyshape.reading import position_at
from anyshape.rows import cuts_of
from anyshape.runner import MOST_CELLS
from anyshape.shapes import Answer, copied
from anyshape.shaping import totals_by
from anyshape.spots import bend_at, overwriting_at
from anyshape.strands import strands_behind
from anyshape.weaving import leaves_in


class NotSingle(Answer):
    """The tree of the array is not a single leaf."""

    @property
    def is_yes(self):
        """Whether the answer is a yes."""
        return False

    def __eq__(self, other):
        return isinstance(other, NotSingle)

    def __repr__(self):
        return "NotSingle()"


class Bent(Answer):
    """Along an axis the numbers do not grow evenly: a point and a bit show it."""

    def __init__(self, axis, point, bit):
        self.axis = copied(axis)
        self.point = copied(point)
        self.bit = copied(bit)

    @property
    def is_yes(self):
        """Whether the answer is a yes."""
        return False

    def __eq__(self, other):
        return (isinstance(other, Bent) and self.axis == other.axis
                and self.point == other.point and self.bit == other.bit)

    def __repr__(self):
        return f"Bent({self.axis!r}, {self.point!r}, {self.bit!r})"


class View(Answer):
    """The array is a view of an input, with a step for each axis, and a start."""

    def __init__(self, source, steps, start):
        self.source = copied(source)
        self.steps = copied(steps)
        self.start = copied(start)

    @property
    def is_yes(self):
        """Whether the answer is a yes."""
        return True

    def number(self, position, numbers):
        """The number of the cell of the input that is read at a position, at numbers."""
        parts = [index * step_at(step, numbers) for index, step in zip(position, self.steps)]
        return start_at(self.start, numbers) + sum(parts)

    def __eq__(self, other):
        return (isinstance(other, View) and self.source == other.source
                and self.steps == other.steps and self.start == other.start)

    def __repr__(self):
        return f"View({self.source!r}, {self.steps!r}, {self.start!r})"


class HasWord(Answer):
    """The tree of the array has a word."""

    @property
    def is_yes(self):
        """Whether the answer is a yes."""
        return False

    def __eq__(self, other):
        return isinstance(other, HasWord)

    def __repr__(self):
        return "HasWord()"


class NoNest(Answer):
    """There are two cuts of which neither divides the other at some points."""

    def __init__(self, one, other, points):
        self.one = copied(one)
        self.other = copied(other)
        self.points = copied(points)

    @property
    def is_yes(self):
        """Whether the answer is a yes."""
        return False

    def __eq__(self, other):
        return (isinstance(other, NoNest) and self.one == other.one
                and self.other == other.other and self.points == other.points)

    def __repr__(self):
        return f"NoNest({self.one!r}, {self.other!r}, {self.points!r})"


class Nest(Answer):
    """Loops, the outermost first, tuples of a count and a step for each leaf; and a start for each leaf."""

    def __init__(self, loops, starts):
        self.loops = copied(loops)
        self.starts = copied(starts)

    @property
    def is_yes(self):
        """Whether the answer is a yes."""
        return True

    def walk(self, numbers):
        """For each cell, by flat index, the tuple of the numbers that the leaves read at numbers."""
        counts = [count.at(numbers) for count, _ in self.loops]
        many = product_of(counts)
        if many > MOST_CELLS:
            raise TooMany("cells", MOST_CELLS)
        starts = [start_at(start, numbers) for start in self.starts]
        steps = [[step_at(step, numbers) for step in row] for _, row in self.loops]
        for index in range(many):
            position = position_at(counts, index)
            read = list(starts)
            for at, row in zip(position, steps):
                read = [number + at * step for number, step in zip(read, row)]
            yield tuple(read)

    def __len__(self):
        return len(self.loops)

    def __eq__(self, other):
        return isinstance(other, Nest) and self.loops == other.loops and self.starts == other.starts

    def __repr__(self):
        return f"Nest({self.loops!r}, {self.starts!r})"


class OtherSize(Answer):
    """At a point the array and the input have other numbers of cells."""

    def __init__(self, point):
        self.point = copied(point)

    @property
    def is_yes(self):
        """Whether the answer is a yes."""
        return False

    def __eq__(self, other):
        return isinstance(other, OtherSize) and self.point == other.point

    def __repr__(self):
        return f"OtherSize({self.point!r})"


class Overwritten(Answer):
    """At a point a leaf reads, at the cell 2 ** bit, or 0 if bit is None, a cell that may be overwritten before."""

    def __init__(self, point, leaf, bit):
        self.point = copied(point)
        self.leaf = copied(leaf)
        self.bit = copied(bit)

    @property
    def is_yes(self):
        """Whether the answer is a yes."""
        return False

    def __eq__(self, other):
        return (isinstance(other, Overwritten) and self.point == other.point
                and self.leaf == other.leaf and self.bit == other.bit)

    def __repr__(self):
        return f"Overwritten({self.point!r}, {self.leaf!r}, {self.bit!r})"


class InPlace(Answer):
    """It is safe to do the array in place of the input."""

    @property
    def is_yes(self):
        """Whether the answer is a yes."""
        return True

    def __eq__(self, other):
        return isinstance(other, InPlace)

    def __repr__(self):
        return "InPlace()"


def view_of(program, name=None):
    """A View, or the first of Crossed, NotSingle and Bent that applies."""
    try:
        craft, shapes, trees, found = strands_behind(program, name)
    except IsCrossed as barred:
        return Crossed(barred.line, barred.cut, barred.other)
    tree = trees[found]
    if tree[0] != "in":
        return NotSingle()
    source, digits, tops, _ = tree[1]
    steps = steps_along(craft.scales(), digits, shapes[found][::-1])
    if steps is None:
        point, (axis, bit) = _told_point(program, craft, lambda tried: bend_at(program, tried, found))
        return Bent(axis, point, bit)
    return View(source, tuple([0 if step is None else step for step in steps[::-1]]), start_of(digits, tops))


def nest_of(program, name=None):
    """A shortest Nest, or the first of Crossed, HasWord and NoNest that applies."""
    try:
        craft, _, trees, found = strands_behind(program, name)
    except IsCrossed as barred:
        return Crossed(barred.line, barred.cut, barred.other)
    scales, strands = craft.scales(), leaves_in(trees[found])
    if _has_word(trees[found]):
        return HasWord()
    chain, pair = chained(scales, [cut for strand in strands for cut in cuts_of(strand[1])])
    if chain is None:
        one, other = pair
        return NoNest(one, other, [scales.weighed(other.over(one))[1], scales.weighed(one.over(other))[1]])
    counts = [upper.over(lower) for lower, upper in zip(chain, chain[1:])]
    steps = [steps_along(scales, strand[1], counts) for strand in strands]
    loops = [(count, tuple([row[at] for row in steps])) for at, count in enumerate(counts)]
    return Nest(tuple(loops[::-1]), tuple([start_of(digits, tops) for _, digits, tops, _ in strands]))


def in_place(program, source, name=None):
    """InPlace, or the first of Crossed, HasWord, OtherSize and Overwritten that applies."""
    if source not in program or program.line_of(source) is not None:
        raise UnknownArray(source)
    try:
        craft, shapes, trees, found = strands_behind(program, name)
    except IsCrossed as barred:
        return Crossed(barred.line, barred.cut, barred.other)
    if _has_word(trees[found]):
        return HasWord()
    point = _parting_of(craft.scales(), craft.times(shapes[found]), craft.times(shapes[source]))
    if point is not None:
        return OtherSize(point)
    if _is_safe(craft.scales(), trees[found], source):
        return InPlace()
    told, (leaf, bit) = _told_point(program, craft, lambda tried: overwriting_at(program, tried, source, found))
    return Overwritten(told, leaf, bit)


def is_view(program, value, name=None):
    """Whether any value is a View of the array that is right."""
    known = view_of(program, name)
    if not isinstance(known, View) or not isinstance(value, View):
        return False
    craft, shapes, _, found = strands_behind(program, name)
    steps = [None if craft.is_one(size) else step for size, step in zip(shapes[found], known.steps)]
    if not isinstance(value.source, str) or value.source != known.source:
        return False
    return (are_steps_like(craft.scales(), steps, value.steps)
            and is_start_like(craft.scales(), known.start, value.start))


def is_nest(program, value, name=None):
    """Whether any value is a Nest of the array that is right."""
    known = nest_of(program, name)
    if not isinstance(known, Nest) or not isinstance(value, Nest):
        return False
    craft, _, trees, found = strands_behind(program, name)
    rows = [strand[1] for strand in leaves_in(trees[found])]
    if not are_loops(craft.scales(), rows, value.loops) or not is_tuple_of(value.starts, len(rows)):
        return False
    return all([is_start_like(craft.scales(), start, told) for start, told in zip(known.starts, value.starts)])


def _told_point(program, craft, finds):
    """The small point, and what a function finds there, for what is so at any telling point of a program."""
    return telling_choice(program.facts(), program.names(), totals_by(craft, program), finds)


def _has_word(tree):
    """Whether a word is in a tree."""
    if tree[0] == "let":
        return any([_has_word(part) for part in tree[2]])
    return tree[0] != "in"


def _parting_of(scales, one, other):
    """A point at which two Sizes are different, or None if they are always equal."""
    for size in (other.over(one), one.over(other)):
        _, point = scales.weighed(size)
        if point is not None:
            return point
    return None


def _is_safe(scales, tree, source):
    """Whether all leaves of an input, under letters or alone, leave the cells where they are that they read."""
    for own, digits, _, _ in leaves_in(tree):
        if own == source and not are_unmoved(scales, digits, tree[0] == "in"):
            return False
    return True
