"""Arrays that are made here, line by line, from their cells alone; and programs by a random source with a seed."""

import itertools
import random

from anyshape.facts import Divides, Equals
from anyshape.programs import Program
from anyshape.shapes import Runs, runs
from anyshape.sizes import Size
from sums import holds_at, value


class DoesNotHold(Exception):
    """A condition of a line does not hold."""


def positions_in(shape):
    """All positions of a shape, row by row."""
    return list(itertools.product(*map(range, shape)))


def arrays_at(program, numbers):
    """The arrays (shape, dict from positions to cells) up to the first line that fails, and its position or None."""
    made = {}
    for name, axes in program.inputs():
        shape = tuple(value(size, numbers) for size in axes)
        made[name] = shape, {at: ("in", name, number) for number, at in enumerate(positions_in(shape))}
    for position, line in enumerate(program.lines()):
        try:
            made[line[0]] = MAKERS.get(line[1], over)(line, made, numbers)
        except DoesNotHold:
            return made, position
    return made, None


def refilled(array, shape):
    """The same cells, by numbers, in another shape."""
    return shape, dict(zip(positions_in(shape), array[1].values()))


def merge(line, made, numbers):
    shape = made[line[2]][0]
    end = line[3] + line[4]
    product = 1
    for size in shape[line[3]:end]:
        product *= size
    return refilled(made[line[2]], (*shape[:line[3]], product, *shape[end:]))


def split(line, made, numbers):
    shape = made[line[2]][0]
    sizes = [value(size, numbers) for size in line[4]]
    product = 1
    for size in sizes:
        product *= size
    if product != shape[line[3]]:
        raise DoesNotHold
    return refilled(made[line[2]], (*shape[:line[3]], *sizes, *shape[line[3] + 1:]))


def drop(line, made, numbers):
    shape = made[line[2]][0]
    if shape[line[3]] != 1:
        raise DoesNotHold
    return refilled(made[line[2]], shape[:line[3]] + shape[line[3] + 1:])


def permute(line, made, numbers):
    shape, cells = made[line[2]]
    moved = {tuple(at[axis] for axis in line[3]): cell for at, cell in cells.items()}
    return by_rows(tuple(shape[axis] for axis in line[3]), moved)


def turn(line, made, numbers):
    shape, cells = made[line[2]]
    axis = line[3]
    return by_rows(shape, {(*at[:axis], shape[axis] - 1 - at[axis], *at[axis + 1:]): cell for at, cell in cells.items()})


def pick(line, made, numbers):
    shape, cells = made[line[2]]
    axis = line[3]
    kept = {at[:axis] + at[axis + 1:]: cell for at, cell in cells.items() if at[axis] == 0}
    return by_rows(shape[:axis] + shape[axis + 1:], kept)


def spread(line, made, numbers):
    shape, cells = made[line[2]]
    axis, size = line[3], value(line[4], numbers)
    wide = {(*at[:axis], further, *at[axis:]): cell for at, cell in cells.items() for further in range(size)}
    return by_rows((*shape[:axis], size, *shape[axis:]), wide)


def cells(line, made, numbers):
    arrays = [made[name] for name in line[3]]
    most = max(len(shape) for shape, _ in arrays)
    padded = [(1,) * (most - len(shape)) + shape for shape, _ in arrays]
    total = list(padded[0])
    for shape in padded[1:]:
        for axis in range(most):
            if total[axis] != shape[axis] and 1 not in (total[axis], shape[axis]):
                raise DoesNotHold
            total[axis] = max(total[axis], shape[axis])
    found = {}
    for at in positions_in(total):
        terms = []
        for (shape, table), sizes in zip(arrays, padded):
            own = tuple(0 if size == 1 else index for size, index in zip(sizes, at))
            terms.append(table[own[most - len(shape):]])
        found[at] = ("let", line[2], tuple(terms))
    return tuple(total), found


def over(line, made, numbers):
    shape, table = made[line[2]]
    kept = [axis for axis in range(len(shape)) if axis not in line[3]]
    bags = {}
    for at, cell in table.items():
        bags.setdefault(tuple(at[axis] for axis in kept), []).append(cell)
    return by_rows(tuple(shape[axis] for axis in kept), {at: word(line[1], bag) for at, bag in bags.items()})


def word(name, terms):
    """A word put together over one or more terms."""
    inner = []
    for term in terms:
        inner += term[1] if term[0] == name else [term]
    if name != "sum":
        inner = [term for at, term in enumerate(inner) if term not in inner[:at]]
    return inner[0] if len(inner) == 1 else (name, tuple(sorted(inner)))


def by_rows(shape, table):
    """The cells in the sequence of their numbers."""
    return shape, {at: table[at] for at in positions_in(shape)}


MAKERS = {"merge": merge, "split": split, "drop": drop, "permute": permute, "turn": turn, "pick": pick, "spread": spread,
          "cells": cells}


def numbers_below(names, bound):
    """All numbers for the names below the bound."""
    for chosen in itertools.product(range(1, bound), repeat=len(names)):
        yield dict(zip(names, chosen))


def kept_numbers(program, bound):
    """All numbers below the bound that keep the facts of a program."""
    return [numbers for numbers in numbers_below(program.names(), bound)
            if all(holds_at(fact, numbers) for fact in program.facts())]


class Maker:
    """Programs by a random source with a seed."""

    def __init__(self, seed, names="nmk"):
        self.source = random.Random(seed)
        self.names = names

    def size(self, top=1):
        """A size that is often a single name."""
        chosen = self.source.sample(self.names, self.source.choice([0, 1, 1, 1, 2]))
        return Size({name: self.source.randint(1, top) for name in chosen})

    def facts(self, many):
        """Facts that leave most names some freedom."""
        kinds = [Divides, Divides, Divides, Equals]
        return [self.source.choice(kinds)(self.size(), self.size() * self.size()) for _ in range(self.source.randint(0, many))]

    def inputs(self, most=2, axes=3):
        """One input or more."""
        return [(name, tuple(self.size() for _ in range(self.source.randint(0, axes))))
                for name in "xyz"[:self.source.randint(1, most)]]

    def program(self, lines, facts=2, always=True, most=2, most_leaves=6):
        """A program with about so many lines, which always runs or of which some conditions may not always hold."""
        made = Program(self.inputs(most), (), self.facts(facts))
        for position in range(lines):
            line = self.line(made, f"a{'abcdefghijklmnopqrstuvwxyz'[position]}")
            if line is None:
                continue
            try:
                longer = made.extended(line)
            except Exception:
                continue
            if longer.leaf_count() > most_leaves or longer.axis_count() > 5:
                continue
            if always and runs(longer) != Runs():
                continue
            made = longer
        return made

    def line(self, program, name):
        """A line that could stand behind the program, or None."""
        arrays = program.arrays()
        read = self.source.choice(arrays[-2:] * 3 + arrays)
        many = program.axis_count(read)
        kind = self.source.choice("merge merge split split permute permute turn pick spread drop cells cells word word".split())
        if kind == "cells":
            return name, kind, self.source.choice("fg"), tuple(self.source.choice([read] + arrays) for _ in range(self.source.randint(1, 3)))
        if kind == "spread":
            return name, kind, read, self.source.randint(0, many), self.size()
        if kind == "permute":
            return name, kind, read, tuple(self.source.sample(range(many), many))
        if many == 0:
            return None
        axis = self.source.randrange(many)
        if kind == "merge":
            return name, kind, read, axis, self.source.randint(1, many - axis)
        if kind == "split":
            return name, kind, read, axis, tuple(self.parts(program, read, axis))
        if kind == "word":
            chosen = sorted(self.source.sample(range(many), self.source.randint(1, many)))
            return name, self.source.choice(["sum", "sum", "greatest", "least"]), read, tuple(chosen)
        return name, kind, read, axis

    def parts(self, program, read, axis):
        """Sizes to which an axis may perhaps be split."""
        size = sized_axes(program, read)[axis]
        one = Size({name: self.source.randint(0, exponent) for name, exponent in size.exponents().items()})
        parts = [one, size.over(one)]
        if self.source.random() < 0.2:
            parts = [self.size(), self.size()]
        self.source.shuffle(parts)
        return parts


def sized_axes(program, read):
    """Sizes of the axes of an array that are right if the program always runs."""
    table = dict(program.inputs())
    for line in program.lines():
        axes = table[line[2]] if line[1] != "cells" else None
        if line[1] == "merge":
            end = line[3] + line[4]
            axes = (*axes[:line[3]], Size.product(*axes[line[3]:end]), *axes[end:])
        elif line[1] == "split":
            axes = (*axes[:line[3]], *line[4], *axes[line[3] + 1:])
        elif line[1] == "permute":
            axes = tuple(axes[axis] for axis in line[3])
        elif line[1] == "spread":
            axes = (*axes[:line[3]], line[4], *axes[line[3]:])
        elif line[1] == "cells":
            shapes = [table[name] for name in line[3]]
            most = max(map(len, shapes))
            shapes = [(Size(),) * (most - len(shape)) + shape for shape in shapes]
            axes = tuple(next((size for size in sizes if size != Size()), Size()) for sizes in zip(*shapes))
        elif line[1] != "turn":
            gone = [line[3]] if line[1] in ("pick", "drop") else line[3]
            axes = tuple(size for axis, size in enumerate(axes) if axis not in gone)
        table[line[0]] = axes
    return table[read]
