"""Whether one column is a sum of others and a rest, in integers alone.

The unknowns are an amount of each column, then a rest for each place. A table
tells the unknowns of its rows by those of its columns, which are 0; all its
entries have one divisor, the scale. At first the rests are told by the amounts.
As long as an unknown is told to be below 0 it is exchanged with one of those
that are 0. Always the first unknown that will do is taken: so this ends.
"""

from anyshape.counts import without_divisor


def balanced(columns, goal):
    """A pair, one part of which is None.

    The first part is a list: a scale of at least 1, then the amounts and the
    rests, none below 0, such that in each place the scale times the goal is the
    sum of the amounts times the columns, plus the rest. The second part are
    counts for the places: their sum over each column is not below 0, that over
    the goal is.
    """
    many = len(columns)
    table = [[entries[at] for entries in columns] + [goal[at]] for at in range(len(goal))]
    told = [many + at for at in range(len(goal))]
    zero = list(range(many))
    scale = 1
    while True:
        row = _first_below(table, told)
        if row is None:
            return [scale] + _amounts(table, told, many + len(goal)), None
        column = _first_raising(table[row], zero)
        if column is None:
            shown = _entries(table[row], zero, told[row], scale, many + len(goal))
            return None, without_divisor(shown[many:])
        pivot = table[row][column]
        table = _exchanged(table, row, column, scale)
        scale = -pivot
        fallen = told[row]
        told[row] = zero[column]
        zero[column] = fallen


def _first_below(table, told):
    """The row of the first unknown that is told to be below 0."""
    below = [(told[at], at) for at in range(len(table)) if table[at][-1] < 0]
    return min(below)[1] if below else None


def _first_raising(row, zero):
    """The column of the first unknown that raises the row's unknown if it grows."""
    raising = [(zero[at], at) for at in range(len(zero)) if row[at] < 0]
    return min(raising)[1] if raising else None


def _exchanged(table, row, column, scale):
    """The table in which the unknowns of a row and a column have changed places.

    The entry in this row and column is below 0; its opposite is the new scale.
    """
    head = table[row]
    after = []
    for at, line in enumerate(table):
        if at == row:
            left = [-entry for entry in head]
            left[column] = -scale
        else:
            factor = line[column]
            # Nothing is lost by this division: all entries are determinants of the first table.
            left = [(factor * two - head[column] * one) // scale for one, two in zip(line, head)]
            left[column] = factor
        after.append(left)
    return after


def _amounts(table, told, many):
    """What the table tells of each unknown, times the scale."""
    amounts = [0] * many
    for at, unknown in enumerate(told):
        amounts[unknown] = table[at][-1]
    return amounts


def _entries(row, zero, unknown, scale, many):
    """The entries of each unknown in the row of the one unknown that it tells."""
    entries = [0] * many
    for entry, other in zip(row, zero):
        entries[other] = entry
    entries[unknown] = scale
    return entries
