"""Places: the tree of an array, and which cells of inputs its leaves read at any sizes."""

from anyshape.errors import InvalidIndex
from anyshape.failures import IsCrossed, TooMany
from anyshape.kinds import is_integer
from anyshape.measures import BySizes, product_of
from anyshape.programs import named_array
from anyshape.rows import Row, digits_at, place_at
from anyshape.runner import MOST_TERMS, Runner
from anyshape.shapes import Answer, always_shapes, copied
from anyshape.sizes import Size
from anyshape.strands import strands_behind
from anyshape.terms import word_over
from anyshape.weaving import changed_tree, leaves_in


class Leaf:
    """Which cells of an input are read, for the flat index and the indexes of words; it does not change."""

    def __init__(self, source, digits, tops, bound):
        self._source = source
        self._row = Row(digits)
        self._tops = tuple(tops)
        self._bound = tuple([Row(inner) for inner in bound])

    @property
    def source(self):
        """The name of the input."""
        return self._source

    @source.setter
    def source(self, value):
        # It refuses: an answer has an attribute of this name that is assigned.
        raise AttributeError("a leaf does not change")

    @property
    def row(self):
        """The row for the flat index."""
        return self._row

    @property
    def tops(self):
        """The list of the pairs (low, high) of Sizes, of which high - low is added to the place."""
        return list(self._tops)

    @property
    def bound(self):
        """The list of the rows for the words above the leaf, the outermost first."""
        return list(self._bound)

    def place(self, index, numbers, inner=()):
        """The number of the cell that is read at numbers, inner being the indexes of the words above the leaf."""
        place = self._row.place(index, numbers)
        for row, at in zip(self._bound, inner):
            place = place + row.place(at, numbers)
        return place + _start_at(self._tops, numbers)

    def __eq__(self, other):
        return (isinstance(other, Leaf) and self._source == other._source and self._row == other._row
                and self._tops == other._tops and self._bound == other._bound)


class Crossed(Answer):
    """At a line a row cannot be cut, because of a barrier."""

    def __init__(self, line, cut, other):
        self.line = copied(line)
        self.cut = copied(cut)
        self.other = copied(other)

    @property
    def is_yes(self):
        """Whether the answer is a yes."""
        return False

    def __eq__(self, other):
        return (isinstance(other, Crossed) and self.line == other.line
                and self.cut == other.cut and self.other == other.other)

    def __repr__(self):
        return f"Crossed({self.line!r}, {self.cut!r}, {self.other!r})"


def crossing(program, name=None):
    """The Crossed of an array, or None if it is not crossed."""
    try:
        _strands(program, name)
    except IsCrossed as found:
        return Crossed(found.line, found.cut, found.other)
    return None


def is_same_crossed(scales, known, value):
    """Whether any value is a Crossed that tells the same as a known one."""
    if not isinstance(value, Crossed) or not is_integer(value.line) or value.line != known.line:
        return False
    if not isinstance(value.cut, Size) or not isinstance(value.other, Size):
        return False
    return scales.equals(known.cut, value.cut) and scales.equals(known.other, value.other)


def tree_of(program, name=None):
    """The tree of an array, with Leaf objects."""
    return changed_tree(_strands(program, name), _leaf_of)


def leaves(program, name=None):
    """The leaves of an array, from left to right."""
    for strand in leaves_in(_strands(program, name)):
        yield _leaf_of(strand)


def term_at(program, numbers, index, name=None):
    """The term for which the tree of an array stands at numbers and a flat index."""
    found = named_array(program, name)
    always_shapes(BySizes(program.facts()), program)
    runner = Runner(program, numbers)
    tree = _strands(program, found)
    if not is_integer(index) or not 0 <= index < product_of(runner.shape(found)):
        raise InvalidIndex(index)
    if runner.cost(found) > MOST_TERMS:
        raise TooMany("terms", MOST_TERMS)
    return _term_of(changed_tree(tree, lambda strand: _strand_at(strand, numbers)), numbers, index, ())


def _strands(program, name):
    """The tree of an array, with strands."""
    _, _, trees, found = strands_behind(program, name)
    return trees[found]


def _leaf_of(strand):
    """The Leaf for a strand."""
    return Leaf(*strand)


def _start_at(tops, numbers):
    """The sum of what tops add to a place at numbers."""
    return sum([high.at(numbers) - low.at(numbers) for low, high in tops])


def _strand_at(strand, numbers):
    """A strand at numbers: the input, where the places start, and the digits of all rows at the numbers."""
    source, digits, tops, bound = strand
    return source, _start_at(tops, numbers), [digits_at(row, numbers) for row in [digits, *bound]]


def _term_of(tree, numbers, index, inner):
    """The term of a tree with strands at numbers, inner being the indexes of the words above it."""
    if tree[0] == "in":
        source, start, rows = tree[1]
        return "in", source, start + sum([place_at(row, at) for row, at in zip(rows, (index,) + inner)])
    if tree[0] == "let":
        return "let", tree[1], tuple([_term_of(part, numbers, index, inner) for part in tree[2]])
    terms = [_term_of(tree[2], numbers, index, inner + (at,)) for at in range(tree[1].at(numbers))]
    return word_over(tree[0], terms)
