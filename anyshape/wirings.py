"""Wirings: to which bits of a place the bits of an index go, and runs of bits that are 1.

A wiring is a list of tuples (length, begin, is_flipped), begin being None for bits that go nowhere; runs of bits are
tuples (begin, end). Lengths may be too great to look at each bit.
"""


def melted_wiring(wiring):
    """The wiring with the longest runs."""
    melted = []
    for length, begin, is_flipped in wiring:
        if length == 0:
            continue
        if len(melted) > 0 and _go_on(melted[-1], begin, is_flipped):
            last = melted.pop()
            melted.append((last[0] + length, last[1], is_flipped))
        else:
            melted.append((length, begin, is_flipped))
    return melted


def parted_wiring(wiring, boundary):
    """A pair: the wiring, cut so that a run begins at this bit or it ends there, and the number of runs below."""
    begin = 0
    for position, run in enumerate(wiring):
        if begin >= boundary:
            return wiring, position
        if begin + run[0] > boundary:
            low = boundary - begin
            parts = [(low, run[1], run[2]), (run[0] - low, shifted(run[1], low), run[2])]
            return wiring[:position] + parts + wiring[position + 1:], position + 1
        begin = begin + run[0]
    return wiring, len(wiring)


def ends_of(wiring):
    """The list of the bits of an index at which the runs of a wiring end."""
    ends = []
    total = 0
    for length, _, _ in wiring:
        total = total + length
        ends.append(total)
    return ends


def shifted(begin, bits):
    """The bit so many bits above another one, None above None."""
    return None if begin is None else begin + bits


def run_at(wiring, position):
    """What a wiring says of the bit at a position: a tuple (bit, is_flipped), or None if it goes nowhere."""
    for length, begin, is_flipped in wiring:
        if position < length:
            return None if begin is None else (begin + position, is_flipped)
        position = position - length
    return None


def joined_runs(runs):
    """The sorted list of the longest runs of the same bits; no bit is in two of the runs."""
    joined = []
    for begin, end in sorted(runs):
        if len(joined) > 0 and joined[-1][1] == begin:
            joined[-1] = (joined[-1][0], end)
        elif begin < end:
            joined.append((begin, end))
    return joined


def runs_through(wiring, runs):
    """The list of the runs of bits of a place that are 1, if those of an index that are 1 go through a wiring."""
    found = []
    low = 0
    for length, begin, is_flipped in wiring:
        high = low + length
        if begin is not None:
            inside = [(max(one, low), min(end, high)) for one, end in runs if one < high and end > low]
            if is_flipped:
                inside = _between(inside, low, high)
            found.extend([(one - low + begin, end - low + begin) for one, end in inside])
        low = high
    return found


def _go_on(run, begin, is_flipped):
    """Whether bits that go to these ones go on with a run."""
    return run[2] == is_flipped and shifted(run[1], run[0]) == begin


def _between(runs, low, high):
    """The list of the runs of the bits from low to high less 1 that are in none of the ascending runs."""
    ends = [low] + [bit for run in runs for bit in run] + [high]
    return [(begin, end) for begin, end in zip(ends[::2], ends[1::2]) if begin < end]
