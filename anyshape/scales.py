"""Scales: whether a Size is always an integer, with a proof either way."""

from anyshape.balance import balanced
from anyshape.counts import added, common_divisor, named_counts
from anyshape.facts import Equals
from anyshape.goals import names_in
from anyshape.sizes import Size


class Scales:
    """Facts, against which Sizes are weighed."""

    def __init__(self, facts):
        self._is_exact = [isinstance(fact, Equals) for fact in facts]
        self._names = names_in(facts)
        rows = [[fact.exponent(name) for name in self._names] for fact in facts]
        # A fact that EQUALS may have a weight below 0, so its row stands there both ways.
        exact = [row for row, is_exact in zip(rows, self._is_exact) if is_exact]
        self._columns = rows + [[-exponent for exponent in row] for row in exact]
        # The same few Sizes are asked for again and again.
        self._found = {}

    def weighed(self, size):
        """A pair: a why that 1 divides the Size and None, or None and a point against it."""
        row = size.exponents()
        further = [name for name in row if name not in self._names]
        for name in further:
            if row[name] < 0:
                return None, {name: 1}
        goal = [row.get(name, 0) for name in self._names]
        amounts, counts = balanced(self._columns, goal)
        if amounts is None:
            return None, named_counts(self._names, counts)
        scale, *parts = amounts
        many = len(self._columns)
        rest = parts[many:] + [scale * row[name] for name in further]
        return lessened(scale, joined_weights(self._is_exact, parts[:many]), self._names + further, rest), None

    def finds_whole(self, size):
        """Whether the Size is always an integer."""
        key = tuple(size.exponents().items())
        if key not in self._found:
            self._found[key] = self.weighed(size)[1] is None
        return self._found[key]

    def divides(self, one, other):
        """Whether the first Size always divides the second one."""
        return self.finds_whole(other.over(one))

    def equals(self, one, other):
        """Whether the Sizes are always equal."""
        return one == other or (self.divides(one, other) and self.divides(other, one))

    def is_one(self, size):
        """Whether the Size is always 1."""
        return self.equals(size, Size())


def joined_weights(is_exact, parts):
    """The weights of facts, from the amounts of their rows and, behind these, of the opposites of the exact ones."""
    weights = []
    backward = len(is_exact)
    for part, is_one_exact in zip(parts, is_exact):
        if is_one_exact:
            weights.append(part - parts[backward])
            backward = backward + 1
        else:
            weights.append(part)
    return weights


def lessened(scale, weights, names, rest):
    """The why with these parts, divided by the greatest integer that divides them all."""
    common = common_divisor([scale] + weights + rest)
    counts = added([named_counts(names, [count // common for count in rest])])
    return scale // common, tuple([weight // common for weight in weights]), counts
