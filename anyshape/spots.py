"""Points that show at bits that an array is bent, or that it is overwritten if it is done in place."""

from anyshape.bits import bit_tree, lengths_at
from anyshape.kinds import is_count, is_integer
from anyshape.weaving import leaves_in
from anyshape.wirings import ends_of


def bend_at(program, point, name):
    """An axis and a bit at which an array of a single leaf is bent at a point, or None."""
    lengths = lengths_at(program, point, name)
    ends = ends_of(bit_tree(program, point, name)[1].wires)
    low = 0
    for axis in range(len(lengths) - 1, -1, -1):
        high = low + lengths[axis]
        inside = [end for end in ends if low < end < high]
        if len(inside) > 0:
            return axis, inside[0] - low
        low = high
    return None


def is_bend_at(program, point, name, axis, bit):
    """Whether any values are an axis and a bit at which an array of a single leaf is bent at a point."""
    lengths = lengths_at(program, point, name)
    if not is_integer(axis) or not 0 <= axis < len(lengths) or not is_count(bit) or bit >= lengths[axis]:
        return False
    leaf = bit_tree(program, point, name)[1]
    low = sum(lengths[axis + 1:])
    first, further = leaf.wire(low), leaf.wire(low + bit)
    if first is None or further is None:
        return first is not None or further is not None
    return further != (first[0] + bit, first[1])


def overwriting_at(program, point, source, name):
    """The position of a leaf and the bit, or None for the cell 0, at which an array overwrites what it reads, or None.

    The array has as many cells as the input, and no words.
    """
    tree = bit_tree(program, point, name)
    for position, leaf in enumerate(leaves_in(tree)):
        if leaf.source != source:
            continue
        start = leaf.place([])
        # Without a letter, cells that read themselves do no harm.
        if start != (leaf.place(start) if tree[0] == "in" else []):
            return position, None
        moved = _first_moved(leaf.wires, tree[0] == "in")
        if moved is not None:
            return position, moved
    return None


def is_overwriting_at(program, point, source, name, position, bit):
    """Whether any values are a position and a bit at which an array overwrites what it reads."""
    tree = bit_tree(program, point, name)
    leaves_there = leaves_in(tree)
    if not is_count(position) or position >= len(leaves_there) or leaves_there[position].source != source:
        return False
    leaf = leaves_there[position]
    cell = []
    if bit is not None:
        if not is_count(bit) or bit >= sum(lengths_at(program, point, name)):
            return False
        cell = [(bit, bit + 1)]
    read = leaf.place(cell)
    return read != cell and (tree[0] != "in" or leaf.place(read) != read)


def _first_moved(wires, may_be_unused):
    """The first bit that goes to another one, or nowhere unless it may, or None."""
    low = 0
    for length, begin, _ in wires:
        if begin != low and not (may_be_unused and begin is None):
            return low
        low = low + length
    return None
