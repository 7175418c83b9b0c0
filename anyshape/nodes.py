"""Words of trees: whether they are crossed, and the digits that their leaves have in common."""

from anyshape.failures import IsCrossed
from anyshape.places import Crossed
from anyshape.words import bound_rows, uncrossed_tree, word_parts


def word_crossing(program, name=None):
    """The Crossed of an array, otherwise that of its first crossed word, or None if there is neither."""
    try:
        uncrossed_tree(program, name)
    except IsCrossed as found:
        return Crossed(found.line, found.cut, found.other)
    return None


def word_digits(program, name=None):
    """The list of the tuples (word, digits) of all words of the tree of an array, each ahead of those inside it."""
    scales, tree = uncrossed_tree(program, name)
    return _digits_in(scales, tree, 0)


def _digits_in(scales, tree, depth):
    """The list for the words of a tree under so many words."""
    if tree[0] == "in":
        return []
    if tree[0] == "let":
        return [found for part in tree[2] for found in _digits_in(scales, part, depth)]
    parts = word_parts(scales, bound_rows(tree[2], depth))
    return [(tree[0], parts)] + _digits_in(scales, tree[2], depth + 1)
