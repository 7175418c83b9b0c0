"""What is known of the results of programs with given facts, and whether two of them are alike."""

from anyshape.failures import IsCrossed
from anyshape.joining import other_input
from anyshape.normalizing import are_same_trees, normalized
from anyshape.shaping import shapes_by
from anyshape.weaving import woven_trees
from anyshape.words import check_words


class Judged:
    """The result of a program with the facts of a craft: it fails, or has a shape, and is crossed or has a tree."""

    def __init__(self, craft, program):
        shapes, self._broken = shapes_by(craft, program)
        self._sizes = None
        self._crossed = None
        self._tree = None
        if self._broken is None:
            self._sizes = shapes[program.result]
            self._weave(craft, program, shapes)

    def _weave(self, craft, program, shapes):
        """Find the normal tree, or what crosses it."""
        try:
            trees = woven_trees(craft, program, shapes, program.result)
            check_words(craft.scales(), program, trees, program.result)
        except IsCrossed as found:
            self._crossed = (found.line, found.cut, found.other)
        else:
            self._tree = normalized(craft.scales(), trees[program.result])

    def broken(self):
        """The position of the line and the condition that does not always hold, or None."""
        return self._broken

    def sizes(self):
        """The tuple of the sizes of the axes, if the program does not fail."""
        return self._sizes

    def crossed(self):
        """The line, the cut and the barrier at which it or a word is crossed, or None."""
        return self._crossed

    def tree(self):
        """The normal tree, or None if there is none."""
        return self._tree


def have_same_sizes(measure, one, other):
    """Whether two results of programs that do not fail have the same shape."""
    if len(one.sizes()) != len(other.sizes()):
        return False
    return all([measure.are_same(size, further) for size, further in zip(one.sizes(), other.sizes())])


def are_alike(craft, one, other):
    """Whether both results have a tree, and have the same shape and the same tree."""
    if one.tree() is None or other.tree() is None or not have_same_sizes(craft, one, other):
        return False
    return are_same_trees(craft.scales(), one.tree(), other.tree())


def are_alike_for(craft, one, other):
    """Whether two programs with the facts of a craft in place of their own have the same inputs and are alike."""
    if other_input(craft, one, other) is not None:
        return False
    return are_alike(craft, Judged(craft, one), Judged(craft, other))
