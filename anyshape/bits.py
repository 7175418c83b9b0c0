"""Programs on bits: at a point each size is a power of 2, and an array a wiring of bits of indexes."""

from anyshape.errors import InvalidPoint, InvalidPosition
from anyshape.failures import DoesNotRun
from anyshape.kinds import is_integer
from anyshape.measures import ByLengths
from anyshape.numbers import is_point
from anyshape.programs import named_array
from anyshape.shaping import shapes_by
from anyshape.weaving import changed_tree, woven_trees
from anyshape.wirings import joined_runs, melted_wiring, parted_wiring, run_at, runs_through


class BitLeaf:
    """To which bits of a place the bits of the flat index and of the indexes of words go; it does not change."""

    def __init__(self, source, wires, ones, bound):
        self._source = source
        self._wires = tuple(wires)
        self._ones = tuple(ones)
        self._bound = tuple([tuple(inner) for inner in bound])

    @property
    def source(self):
        """The name of the input."""
        return self._source

    @source.setter
    def source(self, value):
        # It refuses: an answer has an attribute of this name that is assigned.
        raise AttributeError("a leaf does not change")

    @property
    def wires(self):
        """The wiring for the flat index."""
        return list(self._wires)

    @property
    def ones(self):
        """The list of the runs of bits that are 1 in every place."""
        return list(self._ones)

    @property
    def bound(self):
        """The list of the wirings for the words above the leaf, the outermost first."""
        return [list(inner) for inner in self._bound]

    def wire(self, position):
        """The tuple (bit, is_flipped) to which a bit of the flat index goes, or None if it goes nowhere."""
        if not is_integer(position) or not 0 <= position < sum([run[0] for run in self._wires]):
            raise InvalidPosition(position)
        return run_at(self._wires, position)

    def place(self, runs, inner=()):
        """The runs of bits that are 1 in the place, for those of the flat index and of the indexes of the words."""
        found = list(self._ones) + runs_through(self._wires, runs)
        for wiring, further in zip(self._bound, inner):
            found = found + runs_through(wiring, further)
        return joined_runs(found)

    def __eq__(self, other):
        return (isinstance(other, BitLeaf) and self._source == other._source and self._wires == other._wires
                and self._ones == other._ones and self._bound == other._bound)


class BitRows(ByLengths):
    """The craft of wirings at a point; their runs are the digits."""

    def plain(self, total):
        """The run of the array with this total that is an input."""
        return total, 0, False

    def unused(self, radix):
        """A run for a further axis."""
        return radix, None, False

    def flipped(self, digit):
        """The run the other way."""
        length, begin, is_flipped = digit
        return length, begin, begin is not None and not is_flipped

    def tops_left(self, digits):
        """The list of the ones that runs leave if their bits are 0."""
        return [(begin, begin + length) for length, begin, is_flipped in digits if is_flipped]

    def melted(self, digits):
        """The wiring with the longest runs."""
        return melted_wiring(digits)

    def parted(self, digits, boundary):
        """The wiring, cut at a boundary, and the number of runs below it."""
        return parted_wiring(digits, boundary)

    def settled(self, tops):
        """The list of the ones, with the longest runs."""
        return joined_runs(tops)


def length_of(size, point):
    """The length of a Size at a point."""
    return size.at_point(point)


def lengths_at(program, point, name=None):
    """The tuple of the lengths of the axes of an array at a point."""
    check_keeping(point, program.facts())
    found = named_array(program, name)
    return all_lengths(program, point, found)[found]


def bit_tree(program, point, name=None):
    """The tree of an array at a point, with BitLeaf objects and lengths."""
    check_keeping(point, program.facts())
    found = named_array(program, name)
    shapes = all_lengths(program, point, found)
    return changed_tree(woven_trees(BitRows(point), program, shapes, found)[found], _leaf_of)


def check_keeping(value, facts):
    """Raise unless the value is a point that keeps the facts."""
    if not is_point(value) or not all([fact.kept_by(value) for fact in facts]):
        raise InvalidPoint(value)


def all_lengths(program, point, name):
    """A dict from names of arrays to the lengths of their axes; raise if a line up to that of the array fails."""
    shapes, broken = shapes_by(ByLengths(point), program)
    if name not in shapes:
        raise DoesNotRun(broken[0])
    return shapes


def _leaf_of(strand):
    """The BitLeaf for a strand."""
    return BitLeaf(*strand)
