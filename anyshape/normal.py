"""Normal trees: how words go over cells, told in one way whatever lines have made them."""

from anyshape.normalizing import normalized
from anyshape.words import uncrossed_tree


def normal_tree(program, name=None):
    """The normal tree of an array."""
    scales, tree = uncrossed_tree(program, name)
    return normalized(scales, tree)
