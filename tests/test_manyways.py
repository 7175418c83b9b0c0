"""Words over cells of several inputs, each read in a sequence of its own: which facts bring them together."""

import random
import unittest

from anyshape.alike import Alike, Stopped, Unlike, alike
from anyshape.bitruns import parting_at
from anyshape.memory import Nest, NoNest, is_nest, nest_of
from anyshape.nodes import word_crossing
from anyshape.papers import is_answer
from anyshape.programs import Program
from anyshape.sizes import Size
from makers import arrays_at, kept_numbers
from sums import facts, keeps, points_below
from test_nests import numbers_read

GIVEN = [(), ("n | m",), ("n | m", "m | k"), ("m = k*n",), ("n = m",), ("n^2 | m", "m | k"), ("k | n", "n | m"), ("m | n", "n^2 | k"), ("n = 1",), ("k = m*n",)]


class Ways:
    """Programs over one to three inputs with the same axes in other sequences, which are merged in other sequences."""

    def __init__(self, seed):
        self.source = random.Random(seed)
        self.sizes = [Size({name: 1}) for name in self.source.choices("nmk", k=self.source.randint(2, 3))]
        self.facts = facts(*self.source.choice(GIVEN))
        self.word = self.source.choice(["sum", "greatest", "least"])
        self.inputs, self.lines, read = [], [], []
        for name in "xyz"[:self.source.randint(1, 3)]:
            ins, outs = self.order(), self.order()
            self.inputs.append((name, tuple(self.sizes[at] for at in ins)))
            self.lines.append((f"{name}a", "permute", name, tuple(ins.index(at) for at in outs)))
            if self.source.random() < 0.5:
                self.lines.append((f"{name}b", "turn", f"{name}a", self.source.randrange(len(outs))))
            self.lines.append((f"{name}c", "merge", self.lines[-1][0], 0, len(outs)))
            read.append(f"{name}c")
        self.lines.append(("c", "cells", "f", tuple(read)))

    def order(self):
        return self.source.sample(range(len(self.sizes)), len(self.sizes))

    def plain(self):
        """The word over all cells at once."""
        return Program(self.inputs, [*self.lines, ("s", self.word, "c", (0,))], self.facts)

    def parted(self, is_other):
        """The word over the parts of the index, in another sequence; perhaps one input is read in another way."""
        lines = list(self.lines)
        if is_other:
            made, word, read, _ = lines[0]
            lines[0] = made, word, read, tuple(self.order())
        lines.append(("d", "split", "c", 0, tuple(self.sizes[at] for at in self.order())))
        lines.append(("e", "turn", "d", self.source.randrange(len(self.sizes))))
        lines.append(("g", "permute", "e", tuple(self.order())))
        lines.append(("h", self.word, "g", (self.source.randrange(len(self.sizes)),)))
        lines.append(("s", self.word, "h", tuple(range(len(self.sizes) - 1))))
        return Program(self.inputs, lines, self.facts)


class TestWays(unittest.TestCase):

    def test_answers(self):
        seen = {Alike: 0, Unlike: 0, Stopped: 0, "reasons": 0}
        for seed in range(300):
            ways = Ways(seed)
            one, other = ways.plain(), ways.parted(seed % 3 == 0)
            answer = alike(one, other)
            seen[answer.__class__] += 1
            self.assertTrue(is_answer(one, other, answer))
            if isinstance(answer, Stopped):
                self.assertEqual(answer.answer, word_crossing([one, other][answer.which]))
                continue
            points = [point for point in points_below(one.names(), 3) if all(keeps(point, fact) for fact in ways.facts)]
            parting = [point for point in points if parting_at(one, other, point) is not None]
            self.assertEqual(bool(parting), isinstance(answer, Unlike))
            if isinstance(answer, Alike):
                seen["reasons"] += len(answer.reasons)
                for numbers in kept_numbers(one, 4)[:16]:
                    self.assertEqual(arrays_at(one, numbers)[0]["s"], arrays_at(other, numbers)[0]["s"])
                for place in range(len(answer.reasons)):
                    self.assertFalse(is_answer(one, other, Alike(answer.reasons[:place] + answer.reasons[place + 1:])))
            else:
                numbers = {name: 2 ** answer.point.get(name, 0) for name in one.names()}
                self.assertNotEqual(arrays_at(one, numbers)[0]["s"], arrays_at(other, numbers)[0]["s"])
        for kind, least in ((Alike, 120), (Unlike, 20), (Stopped, 30), ("reasons", 40)):
            self.assertGreater(seen[kind], least)

    def test_nests(self):
        seen = {Nest: 0, NoNest: 0}
        for seed in range(200):
            made = Ways(seed).plain()
            found = nest_of(made, "c")
            seen[found.__class__] += 1
            self.assertEqual(isinstance(found, NoNest), word_crossing(made) is not None)
            if isinstance(found, Nest):
                self.assertTrue(is_nest(made, found, "c"))
                for numbers in kept_numbers(made, 4)[:8]:
                    cells = arrays_at(made, numbers)[0]["c"][1].values()
                    self.assertEqual(list(found.walk(numbers)), [numbers_read(cell) for cell in cells])
        self.assertGreater(min(seen.values()), 20)


if __name__ == "__main__":
    unittest.main()
