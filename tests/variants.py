"""Programs that make the same array in another way, and programs that differ in one thing."""

from anyshape.programs import Program
from anyshape.shapes import Runs, runs
from makers import Maker, sized_axes

WORDS = ("sum", "greatest", "least")
LETTERS = "abcdefghijklmnopqrstuvwxyz"


class Rewriter(Maker):
    """It puts lines between those of a program that leave all cells as they are."""

    def rewritten(self, program, chance=0.5):
        """A program with the same result as a program of which all lines run."""
        made = Program(program.inputs(), (), program.facts())
        names = {name: name for name, _ in program.inputs()}
        self.made = made
        for line in program.lines():
            read = tuple(names[name] for name in line[3]) if line[1] == "cells" else names[line[2]]
            if line[1] in WORDS:
                names[line[0]] = self.word(line, read)
            elif line[1] == "cells":
                names[line[0]] = self.add("cells", line[2], read)
            else:
                names[line[0]] = self.add(line[1], read, *line[3:])
            if self.source.random() < chance and len(self.made) < 18:
                names[line[0]] = self.detour(names[line[0]])
        if program.lines() and self.made.result != names[program.result]:
            self.add("turn", self.add("spread", names[program.result], 0, self.size()), 0)
            self.add("pick", self.made.result, 0)
        return self.made

    def add(self, word, *parts):
        """Put a line behind the others; the name of its array."""
        name = f"b{LETTERS[len(self.made)]}"
        self.made = self.made.extended((name, word, *parts))
        return name

    def word(self, line, read):
        """A word over the same axes, perhaps in several lines, in other sequences, or of turned axes."""
        axes = list(line[3])
        if self.source.random() < 0.4 and len(self.made) < 18:
            read = self.add("turn", read, self.source.choice(axes))
        if self.source.random() < 0.4 and len(self.made) < 18:
            many = self.made.axis_count(read)
            order = axes[:]
            self.source.shuffle(order)
            kept = [axis for axis in range(many) if axis not in axes]
            read = self.add("permute", read, (*order, *kept))
            axes = list(range(len(axes)))
        if self.source.random() < 0.4 and len(axes) > 1 and len(self.made) < 18:
            last = axes.pop(self.source.randrange(len(axes)))
            read = self.add(line[1], read, (last,))
            axes = [axis - (axis > last) for axis in axes]
        return self.add(line[1], read, tuple(axes))

    def detour(self, name):
        """There and back again."""
        many = self.made.axis_count(name)
        kind = self.source.choice(["turn", "permute", "merge", "spread", "spread"])
        if kind == "spread":
            at = self.source.randint(0, many)
            return self.add("pick", self.add("spread", name, at, self.size()), at)
        if many == 0:
            return name
        axis = self.source.randrange(many)
        if kind == "turn":
            return self.add("turn", self.add("turn", name, axis), axis)
        if kind == "permute":
            order = self.source.sample(range(many), many)
            return self.add("permute", self.add("permute", name, tuple(order)), tuple(order.index(at) for at in range(many)))
        count = self.source.randint(1, many - axis)
        sizes = sized_axes(self.made, name)[axis:axis + count]
        return self.add("split", self.add("merge", name, axis, count), axis, tuple(sizes))

    def mutant(self, program):
        """A program in which one line is another one, and which always runs; or the program itself."""
        lines = program.lines()
        for _ in range(20):
            if not lines:
                break
            at = self.source.randrange(len(lines))
            ahead = Program(program.inputs(), lines[:at], program.facts())
            line = self.line(ahead, lines[at][0])
            try:
                made = Program(program.inputs(), [*lines[:at], line, *lines[at + 1:]], program.facts())
            except Exception:
                continue
            if made != program and runs(made) == Runs():
                return made
        return program
