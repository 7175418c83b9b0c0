"""Strands at all sizes: the trees of arrays, their rows cut and melted as facts about the sizes tell."""

from anyshape.measures import BySizes
from anyshape.programs import named_array
from anyshape.rows import Straight, Turned, Unused, cut_digits, melted_digits
from anyshape.shapes import always_shapes
from anyshape.sizes import Size
from anyshape.weaving import woven_trees


class SizeRows(BySizes):
    """The craft of rows at all sizes."""

    def plain(self, total):
        """The digit of the array with this total that is an input."""
        return Straight(total, Size())

    def unused(self, radix):
        """A digit for a further axis."""
        return Unused(radix)

    def flipped(self, digit):
        """The digit the other way."""
        return digit.turned()

    def tops_left(self, digits):
        """The list of the tops that digits leave if their values are 0."""
        return [(digit.factor, digit.factor * digit.radix) for digit in digits if isinstance(digit, Turned)]

    def melted(self, digits):
        """The list of the digits, melted."""
        return melted_digits(self.scales(), digits)

    def parted(self, digits, boundary):
        """The list of the digits, cut at a boundary, and the number of those below it."""
        return cut_digits(self.scales(), digits, boundary)

    def settled(self, tops):
        """The list of the tops, those that meet joined, in ascending sequence."""
        ascending = []
        for low, high in tops:
            later = [pair for pair in ascending if self.scales().divides(high, pair[0])]
            ascending = ascending[:len(ascending) - len(later)] + [(low, high)] + later
        joined = ascending[:1]
        for low, high in ascending[1:]:
            if self.are_same(joined[-1][1], low):
                joined[-1] = (joined[-1][0], high)
            else:
                joined.append((low, high))
        return joined


def strands_behind(program, name):
    """What is known of an array: the craft of the facts, the shapes of all arrays, the trees behind it, and its name.

    Raise if there is no such array, if the program does not always run, or if the array is crossed.
    """
    found = named_array(program, name)
    craft = SizeRows(program.facts())
    shapes = always_shapes(craft, program)
    return craft, shapes, woven_trees(craft, program, shapes, found), found
