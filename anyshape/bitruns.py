"""Normal bit trees, and where two arrays part at a point."""

from anyshape.bits import all_lengths, bit_tree, check_keeping
from anyshape.errors import OtherInputs
from anyshape.measures import ByLengths
from anyshape.weaving import leaves_in
from anyshape.wirings import ends_of, parted_wiring


def normal_bits(program, point, name=None):
    """The normal tree of an array at a point."""
    return _normal(bit_tree(program, point, name), 0)


def parting_at(one, other, point):
    """In which way the results of two programs part at a point, or None if they do not."""
    check_keeping(point, one.facts() + other.facts())
    _check_inputs(one, other, point)
    shape = all_lengths(one, point, one.result)[one.result]
    further = all_lengths(other, point, other.result)[other.result]
    if len(shape) != len(further):
        return "axes", None
    for axis, (length, length_there) in enumerate(zip(shape, further)):
        if length != length_there:
            return "axis", axis
    return _parting(normal_bits(one, point), normal_bits(other, point), ())


def _check_inputs(one, other, point):
    """Raise unless two programs have inputs with the same names and, at a point, the same lengths."""
    measure = ByLengths(point)
    told = [[(name, [measure.measured(size) for size in axes]) for name, axes in program.inputs()]
            for program in (one, other)]
    for position in range(max(len(told[0]), len(told[1]))):
        if told[0][position:position + 1] != told[1][position:position + 1]:
            raise OtherInputs(position)


def _normal(tree, depth):
    """The normal tree of a bit tree under so many words."""
    if tree[0] == "in":
        return "in", tree[1].source, tree[1].wires, tree[1].ones
    if tree[0] == "let":
        return "let", tree[1], tuple([_normal(part, depth) for part in tree[2]])
    word, _, below = tree
    parts = _parts_of([leaf.bound[depth] for leaf in leaves_in(below)])
    used = [(length, _unflipped(entries)) for length, entries in parts if _first_entry(entries) is not None]
    count = sum([part[0] for part in parts]) - sum([part[0] for part in used]) if word == "sum" else 0
    inner = _normal(below, depth + 1)
    if inner[0] == word:
        used.extend(inner[2])
        count = count + inner[1]
        inner = inner[3]
    if len(used) == 0 and count == 0:
        return inner
    return word, count, _longest(used), inner


def _parts_of(wirings):
    """The list of tuples (length, entries) of the bits of an index that go on in sequence by each of the wirings.

    The entries tell where the first one of the bits goes.
    """
    ends = sorted(set([end for wiring in wirings for end in ends_of(wiring)]))
    alike = [_cut_at_all(wiring, ends) for wiring in wirings]
    return [(runs[0][0], tuple([_entry_of(run) for run in runs])) for runs in zip(*alike)]


def _cut_at_all(wiring, boundaries):
    """The wiring, cut at each of the boundaries."""
    for boundary in boundaries:
        wiring = parted_wiring(wiring, boundary)[0]
    return wiring


def _entry_of(run):
    """Where the first bit of a run goes: a tuple (bit, is_flipped), or None."""
    return None if run[1] is None else run[1:]


def _first_entry(entries):
    """The position of the first leaf with an entry, and the entry, or None if there is none."""
    for position, entry in enumerate(entries):
        if entry is not None:
            return position, entry
    return None


def _unflipped(entries):
    """The entries, flipped if the first one is."""
    _, first = _first_entry(entries)
    return tuple([None if entry is None else (entry[0], entry[1] != first[1]) for entry in entries])


def _longest(parts):
    """The sorted tuple of the parts, with as many bits in each as go on in sequence at each leaf."""
    runs = []
    for length, entries in sorted(parts, key=lambda part: _first_entry(part[1])):
        if len(runs) > 0 and _moved(runs[-1]) == entries:
            runs[-1] = (runs[-1][0] + length, runs[-1][1])
        else:
            runs.append((length, entries))
    return tuple(runs)


def _moved(part):
    """The entries of the bit behind those of a part, if it goes on in sequence."""
    length, entries = part
    return tuple([None if entry is None else (entry[0] + length, entry[1]) for entry in entries])


def _parting(one, other, path):
    """The first way in which two normal trees differ, or None."""
    what = _difference(one, other)
    if what is not None:
        return what, path
    if one[0] == "in":
        return None
    trees = [one[2], other[2]] if one[0] == "let" else [one[3:], other[3:]]
    for position, (part, further) in enumerate(zip(trees[0], trees[1])):
        found = _parting(part, further, path + (position,))
        if found is not None:
            return found
    return None


def _difference(one, other):
    """What differs first at the nodes of two normal trees, or None."""
    if one[0] != other[0]:
        return "node"
    if one[0] == "in":
        if one[1] != other[1]:
            return "node"
        return None if one[2:] == other[2:] else "place"
    if one[0] == "let":
        return None if (one[1], len(one[2])) == (other[1], len(other[2])) else "node"
    if one[1] != other[1]:
        return "count"
    return None if one[2] == other[2] else "bits"
