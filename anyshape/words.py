"""Words at all sizes: the bound rows of the leaves below a word, cut at one another's cuts."""

from anyshape.failures import CannotCut, IsCrossed
from anyshape.lines import WORDS
from anyshape.programs import lines_behind
from anyshape.rows import cut_digits, cuts_of
from anyshape.strands import strands_behind
from anyshape.weaving import leaves_in


def uncrossed_tree(program, name):
    """The scales of the facts, and the tree of an array; raise if it or one of its words is crossed."""
    craft, _, trees, found = strands_behind(program, name)
    check_words(craft.scales(), program, trees, found)
    return craft.scales(), trees[found]


def check_words(scales, program, trees, name):
    """Raise if a word of the lines from which an array comes is crossed."""
    lines = program.lines()
    for position in lines_behind(program, name):
        line = lines[position]
        if line[1] not in WORDS:
            continue
        try:
            for depth in range(_runs_made(trees[line[0]], trees[line[2]])):
                aligned_rows(scales, bound_rows(trees[line[0]], depth))
        except CannotCut as barred:
            raise IsCrossed(position, barred.cut, barred.other) from None


def bound_rows(tree, depth):
    """The list of the rows, lists of digits, that the leaves of a tree have for the word under so many words."""
    return [strand[3][depth] for strand in leaves_in(tree)]


def aligned_rows(scales, rows):
    """The list of the rows, each cut at the cuts of all of them; raise if one cannot be cut."""
    cuts = []
    for row in rows:
        # What the rows so far are cut at is in the cuts of this one from now on.
        cuts = cuts_of(_cut_at_all(scales, row, cuts))
    return [_cut_at_all(scales, row, cuts) for row in rows]


def word_parts(scales, rows):
    """The list of the digits, tuples (radix, entries), of a word with these bound rows, the lowest first."""
    aligned = aligned_rows(scales, rows)
    return [(digits[0].radix, tuple([_entry_of(digit) for digit in digits])) for digits in zip(*aligned)]


def _runs_made(tree, read):
    """How many words a line has put above the tree that it read."""
    return len(leaves_in(tree)[0][3]) - len(leaves_in(read)[0][3])


def _cut_at_all(scales, row, cuts):
    """The row, cut at each of the cuts."""
    for cut in cuts:
        row = cut_digits(scales, row, cut)[0]
    return row


def _entry_of(digit):
    """The entry of a digit: a tuple (factor, is_turned), or None if it is unused."""
    return None if digit.factor is None else (digit.factor, digit.WAY == "turned")
