"""How a leaf goes along axes or loops: steps and starts, and cuts that are in one sequence.

A step is 0 or a tuple (sign, size), a start a tuple of tuples (above, below).
"""

from anyshape.kinds import is_integer
from anyshape.proofs import is_tuple_of
from anyshape.rows import Turned, cuts_of
from anyshape.sizes import Size


def steps_along(scales, digits, sizes):
    """The list of the steps of a row along axes or loops of these whole sizes, the lowest first; None if it is bent.

    Where a size is 1, the step is None. A digit that the sizes do not fill is never ended by further ones.
    """
    steps = []
    left = list(digits)
    inside = Size()
    for size in sizes:
        if scales.is_one(size):
            steps.append(None)
            continue
        if len(left) == 0:
            return None
        steps.append(_step_of(left[0], inside))
        inside = inside * size
        if scales.equals(inside, left[0].radix):
            left.pop(0)
            inside = Size()
    return steps if len(left) == 0 else None


def start_of(digits, tops):
    """The start of a leaf: the number that it reads at the first cell."""
    turned = [(digit.factor * digit.radix, digit.factor) for digit in digits if isinstance(digit, Turned)]
    return tuple([(high, low) for low, high in tops] + turned)


def step_at(step, numbers):
    """The integer of a step at numbers."""
    return step[0] * step[1].at(numbers) if isinstance(step, tuple) else 0


def start_at(start, numbers):
    """The integer of a start at numbers."""
    return sum([above.at(numbers) - below.at(numbers) for above, below in start])


def are_steps_like(scales, known, value):
    """Whether any value is a tuple of steps that always equal known ones; where None is known, of any step."""
    if not is_tuple_of(value, len(known)):
        return False
    return all([_is_step_like(scales, step, told) for step, told in zip(known, value)])


def are_loops(scales, rows, value):
    """Whether any value is a tuple of loops, the outermost first, along which leaves with these rows go."""
    if not isinstance(value, tuple):
        return False
    for loop in value:
        if not is_tuple_of(loop, 2) or not isinstance(loop[0], Size) or not scales.finds_whole(loop[0]):
            return False
        if not is_tuple_of(loop[1], len(rows)):
            return False
    for at, row in enumerate(rows):
        steps = steps_along(scales, row, [count for count, _ in value[::-1]])
        if steps is None or not are_steps_like(scales, steps[::-1], tuple([told[at] for _, told in value])):
            return False
    return True


def are_unmoved(scales, digits, may_be_unused):
    """Whether each digit of a row goes to its own place, or is unused, if it may be."""
    for digit, cut in zip(digits, cuts_of(digits)):
        if digit.factor is None:
            if not may_be_unused:
                return False
        elif isinstance(digit, Turned) or not scales.equals(digit.factor, cut):
            return False
    return True


def is_start_like(scales, known, value):
    """Whether any value is a start that always equals a known one."""
    if not isinstance(value, tuple):
        return False
    for pair in value:
        if not is_tuple_of(pair, 2) or not all([isinstance(size, Size) for size in pair]):
            return False
    # Sums are always equal exactly if each Size is there as often, up to equal ones.
    terms = [(above, 1) for above, _ in known] + [(below, -1) for _, below in known]
    terms = terms + [(above, -1) for above, _ in value] + [(below, 1) for _, below in value]
    return all([sum([sign for size, sign in terms if scales.equals(size, one)]) == 0 for one, _ in terms])


def chained(scales, cuts):
    """A pair: the ascending list of the different ones of some cuts, and None if each divides the next.

    Otherwise None, and a pair of two of them of which neither divides the other.
    """
    chain = []
    for cut in cuts:
        if any([scales.equals(cut, other) for other in chain]):
            continue
        below = [other for other in chain if scales.divides(other, cut)]
        above = chain[len(below):]
        if len(above) > 0 and not scales.divides(cut, above[0]):
            return None, (above[0], cut)
        chain = below + [cut] + above
    return chain, None


def _is_step_like(scales, known, value):
    """Whether any value is a step that always equals a known one; any step, if None is known."""
    if not isinstance(value, tuple):
        return is_integer(value) and value == 0 and known in (None, 0)
    if len(value) != 2 or not is_integer(value[0]) or value[0] not in (1, -1) or not isinstance(value[1], Size):
        return False
    if known is None:
        return True
    return known != 0 and value[0] == known[0] and scales.equals(value[1], known[1])


def _step_of(digit, inside):
    """The step of an axis or a loop within a digit, the sizes inside which have this product."""
    if digit.factor is None:
        return 0
    sign = -1 if isinstance(digit, Turned) else 1
    return sign, digit.factor * inside
